import Derived.Test.YtjbkfdeldlajhaaGreatDoorM12
set_option linter.unusedSimpArgs false
namespace Go.Proofs.YtjbkfdeldlajhaaGreatDoor
set_option maxRecDepth 100000
set_option maxHeartbeats 1000000
open Go.RowKit Go.Shelf Go.Proofs.Tryz
open Option renaming none->Y,some->V
open Go.Value renaming int->Z,pointer->X,bool->ao,tuple->bt
open Go.IntKind renaming i64->U
open Go renaming World->ab,Value->ax,Calls->ba,TypeId->cI
open Go.Ending renaming returned->ay
def jL(a:Int)(c:List Int)(L:Int):Prop:=L<=a/\(∀b∈c,L<=b)/\(L=a\/L∈c)
theorem Hb{α β:Type}[DecidableEq α]:∀{l:List (α×β)} {k:α} {q:α×β},q∈l->q.1≠k->q∈del l k
 |[],_,_,h,_=>by cases h
 |(a,x)::r,k,q,h,hne=>by
  unfold del;by_cases e:a=k
  ·rw[fy e];rcases cT.1 h with rfl|b
   ·exact absurd e hne
   ·exact b
  ·rw[el e];rcases cT.1 h with rfl|b
   ·simp
   ·exact ef _ (Hb b hne)
theorem AK(x y:Int)(W:ab):(Builtin.min_ #[3,3] 3 #[Z U x,Z U y]).run prog W=.ok (Z U (if y<x then y else x)) W:=by simp[Builtin.min_,Builtin.min2]
def gP{α:Type}(mk:α->ax)(w:ab)(r:Nat)(a:Option Nat)(l left:List (α×ax)):Prop:=
 match a with
 |none=>l=[]/\left=[]/\w.heap[r]?=V (.mapIter Y 0 #[] 0)
 |some b=>fZ mk w r b l left
def qi(a:Option Nat)(r:Nat)(w:ab):Nat:=
 match a with
 |none=>0
 |some b=>w.rangeLeft b r
theorem gP.left_eq{α:Type}{mk:α->ax}{w:ab}{r:Nat}{a:Option Nat}{l left:List (α×ax)}(h:gP mk w r a l left):qi a r w=left.length:=by
 cases a with
 |none=>obtain⟨_,rfl,_⟩:=h;rfl
 |some b=>exact fZ.left_eq h
theorem fZ.Ql{α:Type}{mk:α->ax}{w i:ab}{r b:Nat}{l left:List (α×ax)}{S:Nat->Prop}(h:fZ mk w r b l left)(g:aa S w i)(p:¬S r)(o:¬S b):fZ mk i r b l left:=by obtain⟨j,a,c,d,e,k,m,f,n⟩:=h;exact⟨j,a,c,d,(g.block b (lg e) o).trans e,k,m,(g.block r (lg f) p).trans f,n⟩
theorem gP.ai{α:Type}{mk:α->ax}{w f:ab}{r:Nat}{a:Option Nat}{l left:List (α×ax)}{S:Nat->Prop}(h:gP mk w r a l left)(d:aa S w f)(e:¬S r)(j:∀b,a=V b->¬S b):gP mk f r a l left:=by
 cases a with
 |none=>
  obtain⟨g,i,c⟩:=h;exact⟨g,i,(d.block r (lg c) e).trans c⟩
 |some b=>exact fZ.Ql h d e (j b rfl)
section
variable{P:Program} {α:Type} [DecidableEq α] {d:TypeDesc} {mk:α->ax} (w:ab) {ops:Array Oper} {rest:List Oper} {o:Oper} {a:Act} {Q:Exit->Act->ab->Prop}
theorem gn(j:o.guard=Y)(m:Operand)(t:cI)(d:o.op=Op.range t m)(p e:cI)(n:P.underlying t=V (.map p e))(f:Option Nat)(k:a.eval m=.map f)(l:List (α×ax))(c:dG mk w f l)(i:∀w',gP mk w' w.heap.size f l l->aa n_ w w'->w'.heap.size=w.heap.size+1->wpList P ops Q rest (a.put o.dst (X (V ⟨w.heap.size,0,Y⟩))) w'):wpList P ops Q (o::rest) a w:=by
 cases f with
 |some b=>exact uT w j m t d p e n b k l c i
 |none=>
  refine wpList_plain j λq g=>?_;have h:l=[]:=c;unfold Oper.wp;simp[execOp,d,k,JS n w,Result.andThen];exact g _ _ (i _ ⟨h,h,az w _⟩ (aa.alloc _ _ _) (by simp))
theorem gH(n:o.guard=Y)(j:Operand)(g:o.op=Op.next j false)(K:ld d mk)(m:Option Nat)(r:Nat)(f:a.eval j=X (V ⟨r,0,Y⟩))(l left:List (α×ax))(h:gP mk w r m l left)(c:left=[]->wpList P ops Q rest (a.put o.dst (bt #[ao false])) w)(e:∀k v w',(k,v)∈left->gP mk w' r m l (del left k)->aa (·=r) w w'->w'.heap.size=w.heap.size->(Instr.entry (X (V ⟨r,0,Y⟩))).run P w'=.ok (bt #[mk k,v]) w'->wpList P ops Q rest (a.put o.dst (bt #[ao true,mk k,v])) w'):wpList P ops Q (o::rest) a w:=by
 cases m with
 |some b=>exact xW w n j g K b r f l left h c e
 |none=>
  refine wpList_plain n λs i=>?_;obtain⟨_,p,q⟩:=h;unfold Oper.wp;simp[execOp,g,f,Mp (P:=P) o.type w q,Result.andThen];exact i _ _ (c p)
end
structure sQ{α β:Type}[DecidableEq α](ps:List (α×β))(val:β->ax)(f:α×β->Int)(c0:Int)(left:List (α×ax))(c:Int):Prop where
 le:c<=c0
 at_:c=c0\/c∈ps.map f
 seen:∀p∈ps,(p.1,val p.2)∉left->c<=f p
 sub:∀q∈left,q∈ps.map (λp=>(p.1,val p.2))
theorem sQ.start{α β:Type}[DecidableEq α](c:List (α×β))(a:β->ax)(f:α×β->Int)(b:Int):sQ c a f b (c.map λp=>(p.1,a p.2)) b:=
 ⟨ya _,.inl rfl,λp e d=>absurd (fI.2 ⟨p,e,rfl⟩) d,λ_ g=>g⟩
theorem sQ.step{α β:Type}[DecidableEq α]{i:List (α×β)}{d:β->ax}{f:α×β->Int}{o c n:Int}{left:List (α×ax)}{p:α×β}(r:(i.map (·.1)).Nodup)(h:sQ i d f o left c)(s:p∈i)(e:n=if f p<c then f p else c):sQ i d f o (del left p.1) n:=by
 obtain⟨A,x,y,z⟩:=h;refine⟨by split at e<;>omega,?_,λb a m=>?_,λq w=>z q ((dC _ _).subset w)⟩
 ·split at e
  ·right;rw[e];exact fI.2 ⟨p,s,rfl⟩
  ·rw[e];exact x
 ·by_cases j:b.1=p.1
  ·have l:b=p:=by have g:=jc r (k:=b.1) (v:=b.2) a;have t:=jc r (k:=p.1) (v:=p.2) s;rw[j,t]at g;simp only[vv]at g;exact Prod.ext j g.symm
   rw[l];split at e<;>omega
  ·have g:=y b a (λu=>m (Hb u j));split at e<;>omega
theorem sQ.done{α β:Type}[DecidableEq α]{e:List (α×β)}{a:β->ax}{f:α×β->Int}{d c:Int}{left:List (α×ax)}(h:sQ e a f d left c)(i:left=[]):jL d (e.map f) c:=by refine⟨h.le,λb g=>?_,h.at_⟩;obtain⟨p,j,rfl⟩:=fI.1 g;exact h.seen p j (by rw[i];simp)
theorem jL.more{a c e:Int}{i j:List Int}(h:jL a i c)(k:jL c j e):jL a (i++j) e:=by
 obtain⟨n,l,f⟩:=h;obtain⟨o,m,g⟩:=k;refine⟨by omega,λb d=>?_,?_⟩
 ·rcases cQ.1 d with d|d
  ·have:=l b d;omega
  ·exact m b d
 ·rcases g with rfl|g
  ·rcases f with rfl|f
   ·exact .inl rfl
   ·exact .inr (fQ _ f)
  ·exact .inr (fx _ g)
def bB.lQ(x:bB):Int:=if x.full then x.to else x.gY
def aF.held(R:aF):List Int:=R.af.map (λp=>p.2.aI)++R.aN.map (λp=>p.1)++R.aA.map (λp=>p.2.lQ)
theorem uL(x:bB)(w:ab):ba prog 137 #[x.val] w λe b=>e=ay (Z U x.lQ)/\aa n_ w b:=by
 obtain⟨a,d,to,f,g,h,c⟩:=x;unfold bB.val bB.lQ;cases a;all_goals
  go_enter func137,ntmps137;go_wp2;go_ret;exact⟨rfl,aa.alloc _ _ _⟩
theorem qY{w:ab}{R:aF}(h:aq w R):(R.aN.map (·.1)).Nodup:=by have:=h.af.dc.nodup;simpa[tO,tQ]using this
theorem Ax{w:ab}{R:aF}(h:aq w R):(R.aA.map (·.1)).Nodup:=by have:=h.af.cU.nodup;simpa[tO,tQ]using this
theorem yx(R:aF)(w:ab)(h:aq w R):ba prog 90 #[X (V ⟨R.sb,0,Y⟩)] w λe w'=>∃L:Int,e=ay (Z U L)/\jL R.now R.held L/\aa n_ w w':=by
 have c0:w.cell? ⟨R.sb,0,Y⟩=V (Z U R.now):=h.cell 0;have P:w.cell? ⟨R.sb,3,Y⟩=V (.map R.wm):=h.cell 3;have c4:w.cell? ⟨R.sb,4,Y⟩=V (.map R.pm):=h.cell 4;have c6:w.cell? ⟨R.sb,6,Y⟩=V (.map R.cm):=h.cell 6;have c9:=h.lt;have o:=E h;clear h;go_enter func90,ntmps90;go_wp2_with(at_range;go_must(refine gn _ rfl _ 54 rfl 3 123 Tryz.underlying54 R.wm rfl _ o.o.af.cy ?_;intro w1 b3 b4 c5))
 go_frame;go_loopw [3] (λi wr=>∃(c:Int) (left:List (Int×ax)),i=Z U c/\gP (Z U) wr w.heap.size R.wm (R.af.map λp=>(p.1,bE p.2)) left/\aa n_ w wr/\w.heap.size<wr.heap.size/\sQ R.af bE (λp=>p.2.aI) R.now left c) (λ_ wr=>qi R.wm w.heap.size wr)
 case atStart=>exact⟨R.now,_,rfl,b3,b4,by omega,sQ.start _ _ _ _⟩
 case round=>
  obtain⟨c,left,rfl,q,G,d2,hc⟩:=hrel;clear b3 b4 c5 w1;have d4:=G.cell (p:=⟨R.sb,4,Y⟩) c4 id;have HC:=E hc;clear hc;go_wp2_with(at_next;go_must(refine gH _ rfl _ rfl cY R.wm w.heap.size rfl _ _ q ?_ ?_))
  ·intro a2;obtain⟨wA,rfl⟩:∃x,x=wr:=⟨_,rfl⟩
   have HD:=E (HC.o.done a2);have b9:=E G;clear a2 q c0 P HC;go_wp2_with(at_range;go_must(refine gn _ rfl _ 55 rfl 3 3 Tryz.underlying55 R.pm rfl _ (o.o.af.dc.ai b9.o k_) ?_;intro w2 g D b6))
   go_frame;go_loopw [3] (λi wr=>∃(c2:Int) (f:List (Int×ax)),i=Z U c2/\gP (Z U) wr wA.heap.size R.pm (R.aN.map λp=>(p.1,Z U p.2)) f/\aa n_ wA wr/\wA.heap.size<wr.heap.size/\sQ R.aN (λz=>Z U z) (λp=>p.1) c f c2) (λ_ wr=>qi R.pm wA.heap.size wr)
   case atStart=>exact⟨c,_,rfl,g,D,by omega,sQ.start _ _ _ _⟩
   case round=>
    obtain⟨c2,f,rfl,r,a5,d1,b1⟩:=hrel;clear g D b6 w2;have s:aa n_ w wr:=G.tr a5 i_;have d6:=s.cell (p:=⟨R.sb,6,Y⟩) c6 id;have Q:=E b1;clear b1;go_wp2_with(at_next;go_must(refine gH _ rfl _ rfl cY R.pm wA.heap.size rfl _ _ r ?_ ?_))
    ·intro M;obtain⟨wB,rfl⟩:∃x,x=wr:=⟨_,rfl⟩
     have b7:=E (Q.o.done M);have a9:=E s;clear M r Q d4 c4 c6;go_wp2_with(at_range;go_must(refine gn _ rfl _ 56 rfl 3 186 Tryz.underlying56 R.cm rfl _ (o.o.af.cU.ai a9.o k_) ?_;intro w3 a1 b5 c7))
     go_frame;go_loopw [3] (λi wr=>∃(P:Int) (d:List (Int×ax)),i=Z U P/\gP (Z U) wr wB.heap.size R.cm (R.aA.map λp=>(p.1,p.2.val)) d/\aa n_ wB wr/\wB.heap.size<wr.heap.size/\sQ R.aA bB.val (λp=>p.2.lQ) c2 d P) (λ_ wr=>qi R.cm wB.heap.size wr)
     case atStart=>exact⟨c2,_,rfl,a1,b5,by omega,sQ.start _ _ _ _⟩
     case round=>
      obtain⟨P,d,rfl,C,a6,d3,b2⟩:=hrel;clear a1 b5 c7 w3;have a3:=E b2;clear b2;go_wp2_with(at_next;go_must(refine gH _ rfl _ rfl cY R.cm wB.heap.size rfl _ _ C ?_ ?_))
      ·intro N;have b8:=E (a3.o.done N);clear N;go_wp2;go_ret;exact⟨P,rfl,(HD.o.more b7.o).more b8.o,s.tr a6 i_⟩
      ·intro k v w4 b j F c8 S;obtain⟨p,T,e⟩:=fI.1 (a3.o.sub _ b);simp only[tB]at e;obtain⟨rfl,rfl⟩:=e;have l:aa n_ wB w4:=a6.trans F (λi hi e=>by have e':i=wB.heap.size:=e;omega);obtain⟨pn,⟨a0,fr,to,hd,nx,sm,ct⟩⟩:=p;have a4:=E (λW=>uL ⟨a0,fr,to,hd,nx,sm,ct⟩ W);simp only[bB.val]at S a4;obtain⟨nd,a7⟩:∃nd,nd=bB.lQ ⟨a0,fr,to,hd,nx,sm,ct⟩:=⟨_,rfl⟩
       rw[<-a7]at a4;obtain⟨B,a⟩:∃B,B=if nd<P then nd else P:=⟨_,rfl⟩
       have K:=λW=>AK P nd W;rw[<-a]at K;have t:=E a;have c1:=E a7;have m:=E j;have u:=E C;have A:=E b;have y:=E l;have HP:=E T;clear j C b a l F T d6 a6 a7;go_wp2_with(go_at_call 137;go_must(refine(a4.o _).mono ?_;rintro e w5 ⟨rfl,k5⟩))
       have a8:aa n_ w4 w5:=((aa.refl n_ w4).al _).tr k5 i_;have b0:gP (Z U) w5 wB.heap.size R.cm (R.aA.map λp=>(p.1,p.2.val)) (del d pn):=m.o.ai a8 id k_;refine⟨⟨B,del d pn,rfl,b0,y.o.tr a8 i_,by have:=a8.size;omega,a3.o.step (Ax o.o) HP.o (by rw[t.o,c1.o])⟩,?_⟩;rw[b0.left_eq,u.o.left_eq];exact mQ A.o
    ·intro k v w4 b j F c8 S;obtain⟨p,T,e⟩:=fI.1 (Q.o.sub _ b);simp only[tB]at e;obtain⟨rfl,rfl⟩:=e;have l:aa n_ wA w4:=a5.trans F (λi hi e=>by have e':i=wA.heap.size:=e;omega);obtain⟨B,a⟩:∃B,B=if p.1<c2 then p.1 else c2:=⟨_,rfl⟩
     have K:=λW=>AK c2 p.1 W;rw[<-a]at K;have t:=E a;have m:=E j;have u:=E r;have A:=E b;have y:=E l;have HP:=E T;clear j r b a l F T d4 c4 c6 a5 s d6;go_wp2;refine⟨⟨B,del f p.1,rfl,m.o,y.o,by omega,Q.o.step (qY o.o) HP.o t.o⟩,?_⟩;rw[m.o.left_eq,u.o.left_eq];exact mQ A.o
  ·intro k v w2 b g D b6 S;obtain⟨p,T,e⟩:=fI.1 (HC.o.sub _ b);simp only[tB]at e;obtain⟨rfl,rfl⟩:=e;have H:aa n_ w w2:=G.trans D (λi hi e=>by have e':i=w.heap.size:=e;omega);obtain⟨d0,-,-⟩:=(o.o.ai H k_).af.work (n:=p.1) (x:=p.2) T;obtain⟨B,a⟩:∃B,B=if p.2.aI<c then p.2.aI else c:=⟨_,rfl⟩
   have K:=λW=>AK c p.2.aI W;rw[<-a]at K;have t:=E a;simp only[bE]at S;have m:=E g;have u:=E q;have A:=E b;have y:=E H;have HP:=E T;clear g q b a H D T d4 c0 P c4 c6 G;go_wp2;refine⟨⟨B,del left p.1,rfl,m.o,y.o,by omega,HC.o.step (mi o.o) HP.o t.o⟩,?_⟩;rw[m.o.left_eq,u.o.left_eq];exact mQ A.o
end Go.Proofs.YtjbkfdeldlajhaaGreatDoor
namespace Go.Proofs.YtjbkfdeldlajhaaGreatDoor
set_option maxRecDepth 100000
set_option maxHeartbeats 1000000
open Go.RowKit Go.Shelf Go.Proofs.Tryz
open Option renaming none->Y,some->V
open Go.Value renaming int->Z,slice->J,pointer->X,string->O,bool->ao,tuple->bt
open Go.IntKind renaming i64->U
open Go.Obj renaming cells->I
open Go renaming World->ab,Calls->ba,Value->ax
open Go.Ending renaming returned->ay
variable{w e:ab}{R:aF}{C:List Nat}
def yN(R:aF)(L:Int)(w c:ab):Prop:=
 ∃a b,aq c {R with aK:=L,kv:=b,keys:=eF R L R.keys.length,au:=a}/\(∀k,aw a k=if bR R.keys k then(aw R.au k).drop (cO (aw R.au k) L)else aw R.au k)/\(∀k,(aD a k).isSome=true->(aD R.au k).isSome=true)/\(∀p∈a,p.2.aE≠[])/\aa (·∈R.fp) w c/\∀k∈aF.fp {R with aK:=L,kv:=b,keys:=eF R L R.keys.length,au:=a},k∈R.fp\/w.heap.size<=k
theorem aq.LN{b:ab}{n:Int}(h:aq w R)(f:aa (λk=>k∈C\/k=R.sb) w b)(c:∀k∈C,k∉R.fp)(d:b.heap[R.sb]?=(w.setCell ⟨R.sb,1,Y⟩ (Z U n)).heap[R.sb]?):aq b {R with aK:=n}:=by
 refine h.nums f (λk a=>?_) R.now n R.aJ ?_
 ·rintro(e|rfl)
  ·exact c k e (ef _ a)
  ·have:=h.nodup;simp only[aF.fp,ey]at this;exact this.1 a
 ·rw[d];exact h.set (R':={R with aK:=n}) (i:=1) (v:=Z U n) rfl (by simp[bo])
theorem Kw(R:aF)(w:ab)(h:aq w R)(g:Good R)(t:il R)(a0:R.keys.length<900000000000)(H:R.total<=1000000000000000):ba prog 37 #[X (V ⟨R.sb,0,Y⟩)] w λe w'=>∃L:Int,e=ay (Z U (jV R L R.keys.length))/\jL R.now R.held L/\yN R L w w':=by
 have a2:=mf_;have o:aa n_ w ((w.alloc (I #[J Y 0 0] 114)).alloc (I #[Z U 0] 71)):=((aa.refl _ w).al _).al _;have v:=E (yx R _ (h.ai o k_));have a1:=h.lt;have D:iP ((w.alloc (I #[J Y 0 0] 114)).alloc (I #[Z U 0] 71)) w.heap.size [] [w.heap.size]:=by refine⟨J Y 0 0,(Below.heap_alloc _ _ _ (by simp)).trans (az w _),Row.nil _ _ _,by simp[Value.ownBlock],rfl⟩
 have F:((w.alloc (I #[J Y 0 0] 114)).alloc (I #[Z U 0] 71)).heap[w.heap.size+1]?=V (I #[Z U 0] 71 (0,0)):=by have:=az (w.alloc (I #[J Y 0 0] 114)) (I #[Z U 0] 71);rwa[World.size_alloc]at this
 have y:=E h;have a:=E g;have Q:=E t;have u:=E o;have N:=E D;have s:=E F;clear h g t o D F;go_enter_defers func37,ntmps37;go_wp2_with fail;refine(v.o).mono ?_;rintro e M ⟨L,rfl,hL,K⟩;have HL:=E hL;have i:=y.o.ai (u.o.tr K i_) k_;have a3:w.heap.size+2<=M.heap.size:=by have:=K.size;simp at this;omega
 have q:=E (iU w.heap.size [] [w.heap.size] R.sb 1 R.aK L M (N.o.ai K k_) (i.cell 1) (i.frozen 1) (by simp;omega) (by simp));have P:=E i;have K1:=E K;clear hL i K v;go_wp2_with fail;refine(q.o).mono ?_;rintro e w2 ⟨rfl,T,C1,G,A,k2,l,C⟩;have d:=bG y.o;have c:∀k∈C1,k=w.heap.size\/M.heap.size<=k:=λk j=>by
  rcases l k j with b|b
  ·left;simpa using b
  ·exact .inr b
 have B:aq w2 {R with aK:=L}:=P.o.LN k2 (λk j hf=>by have:=d k hf;simp at j;omega) C;have x:=E (yA {R with aK:=L} L w.heap.size T C1 w2 B ⟨a.o.now,a.o.aJ,a.o.dm,a.o.numbers,a.o.aI,a.o.writes30,a.o.nF,a.o.rising,a.o.fH,a.o.filled,a.o.hkeys,a.o.wy,a.o.sorted,a.o.keys⟩ ⟨Q.o.bP,Q.o.keys,Q.o.filled⟩ A (λk j hf=>by have:=d k hf;rcases c k j with b|b<;>omega) (by rw[G];simp) a0 H)
 have S:=E k2;have r:=E c;clear B C A k2 l G c q;go_wp2_with fail;refine(x.o).mono ?_;rintro e w3 ⟨rfl,hP⟩;have HP:=E hP;clear hP x;go_wp2;have p:yN R L w w3:=by
  obtain⟨m,vl,p1,p2,p3,p4,p5,p6⟩:=HP.o;refine⟨m,vl,p1,p2,p3,p4,?_,λk j=>?_⟩
  ·have q1:aa (·∈R.fp) w M:=(u.o.tr K1.o i_).mono (λ_ _ h=>h.elim);have q2:aa (·∈R.fp) w w2:=q1.trans S.o (λk j h=>by
    rcases h with h|h
    ·simp at h;omega
    ·rw[h];simp[aF.fp])
   refine q2.trans p5 (λk j h=>?_);rcases h with h|h
   ·exact h
   ·rcases r.o k h with b|b<;>omega
  ·rcases p6 k j with b|b
   ·exact .inl b
   ·right;have:=S.o.size;omega
 have W:w3.cell? ⟨w.heap.size+1,0,Y⟩=V (Z U 0):=by
  obtain⟨m,vl,-,-,-,-,p5,-⟩:=HP.o;have e1:=(K1.o.block (w.heap.size+1) (lg s.o) id).trans s.o;have e2:=(S.o.block (w.heap.size+1) (lg e1) (by rintro(h|h);(simp at h);omega)).trans e1;have e3:=(p5.block (w.heap.size+1) (lg e2) (by
   rintro(h|h)
   ·have h':w.heap.size+1∈R.fp:=h;have:=d _ h';omega
   ·rcases r.o _ h with b|b<;>omega)).trans e2
  exact ae e3 0
 refine leaves_cons (f:=89) (args:=#[X (V ⟨w.heap.size,0,Y⟩),X (V ⟨w.heap.size+1,0,Y⟩)]) (by simp) (by simp[go_sem]) ?_;refine(Kv w.heap.size (w.heap.size+1) w3 W).mono ?_;rintro e u' a4 ⟨rfl,rfl,rfl⟩;simp[Leaves,settle,results,Tryz.results37,go_sem];exact⟨L,rfl,HL.o,p⟩
theorem Tryz.lM(w:ab):(zeroValue 3).run prog w=.ok (Z U 0) w:=by kernel_rfl
def bB.zero:bB:=⟨false,0,0,false,ByteArray.empty,0,0⟩
theorem Tryz.Hu(w:ab):(zeroValue 186).run prog w=.ok bB.zero.val w:=by kernel_rfl
theorem BD(m:Nat)(g:List ax)(C:List Nat)(a l:Nat)(u d:Option Nat)(w:ab)(h:iP w m g C)(z:w.cell? ⟨a,l,Y⟩=V (.map u))(q:w.frozen? ⟨a,l,Y⟩=false)(B:a∉C)(A:g.length<1000000000000):ba prog 84 #[X (V ⟨m,0,Y⟩),X (V ⟨a,l,Y⟩),.map d] w λe v=>e=ay (bt #[])/\∃i x,i.length=g.length+1/\iP v m i x/\aa (λk=>k∈C\/k=a) w v/\(∀k∈x,k∈C\/w.heap.size<=k)/\v.heap[a]?=(w.setCell ⟨a,l,Y⟩ (.map d)).heap[a]?:=by
 have t:a<w.heap.size:=World.block_lt_of_cell? _ _ z;have F:QS (g.length<1000000000000):=A;have n:QS (a∉C):=B;clear A B;have M:=mf_;go_enter func84,ntmps84;go_wp2_with(go_at_call 92;go_must(refine(dz m g C _ _ _ (h.ai ((aa.alloc n_ w _).trans (aa.alloc n_ _ _) k_) k_) (by have:=F.o;omega)).mono ?_;rintro e N ⟨rfl,D,o,j,b⟩;obtain⟨K,L,H⟩:=kL h j z q n.o))
 go_end0;obtain⟨s,p⟩:=nK j t n.o (.map d) l;refine⟨rfl,_,D,?_,o.ai (aa.setCell _ _ _) (λk r e=>?_),s,λk r=>?_,p⟩
 ·simp
 ·have G:k=a:=e;subst G;rcases b k r with c|c
  ·exact n.o c
  ·simp at c;omega
 ·rcases b k r with c|c
  ·exact .inl c
  ·simp at c;right;omega
theorem BC(m:Nat)(g:List ax)(C:List Nat)(a l:Nat)(u d:Option Nat)(w:ab)(h:iP w m g C)(z:w.cell? ⟨a,l,Y⟩=V (.map u))(q:w.frozen? ⟨a,l,Y⟩=false)(B:a∉C)(A:g.length<1000000000000):ba prog 111 #[X (V ⟨m,0,Y⟩),X (V ⟨a,l,Y⟩),.map d] w λe v=>e=ay (bt #[])/\∃i x,i.length=g.length+1/\iP v m i x/\aa (λk=>k∈C\/k=a) w v/\(∀k∈x,k∈C\/w.heap.size<=k)/\v.heap[a]?=(w.setCell ⟨a,l,Y⟩ (.map d)).heap[a]?:=by
 have t:a<w.heap.size:=World.block_lt_of_cell? _ _ z;have F:QS (g.length<1000000000000):=A;have n:QS (a∉C):=B;clear A B;have M:=mf_;go_enter func111,ntmps111;go_wp2_with(go_at_call 92;go_must(refine(dz m g C _ _ _ (h.ai ((aa.alloc n_ w _).trans (aa.alloc n_ _ _) k_) k_) (by have:=F.o;omega)).mono ?_;rintro e N ⟨rfl,D,o,j,b⟩;obtain⟨K,L,H⟩:=kL h j z q n.o))
 go_end0;obtain⟨s,p⟩:=nK j t n.o (.map d) l;refine⟨rfl,_,D,?_,o.ai (aa.setCell _ _ _) (λk r e=>?_),s,λk r=>?_,p⟩
 ·simp
 ·have G:k=a:=e;subst G;rcases b k r with c|c
  ·exact n.o c
  ·simp at c;omega
 ·rcases b k r with c|c
  ·exact .inl c
  ·simp at c;right;omega
theorem ur(b:Nat)(k:Int)(l:List (Int×ax))(q:Int)(w:ab)(h:aQ (Z U) w b l)(d:(aD l k).getD (Z U 0)=Z U q):ba prog 136 #[.map (V b),Z U k] w λe i=>(∃a,e=ay (.func (.func 178) #[] a))/\aa n_ w i:=by
 have g:=mf_;have f:QS ((aD l k).getD (Z U 0)=Z U q):=d;clear d;go_enter func136,ntmps136;go_wp2_with(at_lookup;go_must(refine bC _ rfl _ _ 55 rfl 3 3 cY Tryz.underlying55 Tryz.underlying3 _ (Tryz.lM _) b rfl k rfl l ((h.ai (aa.alloc n_ _ _) id).ai (aa.alloc n_ _ _) id) ?_;rw[f.o]))
 go_ret;exact⟨⟨_,rfl⟩,((((aa.refl _ w).al _).al _).al _).al _⟩
theorem tk(m:Nat)(d:List ax)(C:List Nat)(b:Nat)(k:Int)(l:List (Int×ax))(q v:Int)(w:ab)(H:iP w m d C)(h:aQ (Z U) w b l)(z:(aD l k).getD (Z U 0)=Z U q)(x:b∉C)(y:d.length<1000000000000):ba prog 85 #[X (V ⟨m,0,Y⟩),.map (V b),Z U k,Z U v] w λe s=>e=ay (bt #[])/\∃f t,f.length=d.length+1/\iP s m f t/\aa (λk=>k∈C\/k=b) w s/\(∀k∈t,k∈C\/w.heap.size<=k)/\aQ (Z U) s b (put l k (Z U v)):=by
 have K:=h.lt;have B:QS (d.length<1000000000000):=y;have u:QS (b∉C):=x;have D:QS ((aD l k).getD (Z U 0)=Z U q):=z;clear y x z;go_enter func85,ntmps85;go_wp2_with(first
  |(go_at_call 136;go_must(refine(ur b k l q _ h D.o).mono ?_;rintro e N ⟨⟨F,rfl⟩,a⟩))
  |(go_at_call 92;go_must(refine(dz m d C _ _ _ (H.ai a k_) (by have:=B.o;omega)).mono ?_;rintro e P ⟨rfl,A,n,i,c⟩))
  |(at_mapUpdate;go_must(refine fW _ rfl _ _ _ 55 rfl 3 3 cY Tryz.underlying55 Tryz.underlying3 b rfl k rfl _ rfl l ((h.ai a id).ai i u.o) ?_;intro M r j L)))
 go_end0;have p:aa (λk=>k∈C\/k=b) w M:=((a.mono (T:=λk=>k∈C\/k=b) (λ_ _ h=>h.elim)).tr i (λ_ h=>.inl h)).tr j (λ_ h=>.inr h);refine⟨rfl,_,?_,A,n.ai j (λk o e=>?_),p,λk o=>?_,r⟩
 ·simp
 ·have G:k=b:=e;subst G;rcases c k o with g|g
  ·exact u.o g
  ·have:=a.size;omega
 ·rcases c k o with g|g
  ·exact .inl g
  ·have:=a.size;right;omega
theorem FP(m:Nat)(d:List ax)(C:List Nat)(b:Nat)(k:Int)(l:List (Int×ax))(q:Int)(w:ab)(G:iP w m d C)(h:aQ (Z U) w b l)(y:(aD l k).getD (Z U 0)=Z U q)(v:b∉C)(x:d.length<1000000000000):ba prog 88 #[X (V ⟨m,0,Y⟩),.map (V b),Z U k] w λe s=>e=ay (bt #[])/\∃f t,f.length=d.length+1/\iP s m f t/\aa (λk=>k∈C\/k=b) w s/\(∀k∈t,k∈C\/w.heap.size<=k)/\aQ (Z U) s b (del l k):=by
 have H:=h.lt;have A:QS (d.length<1000000000000):=x;have u:QS (b∉C):=v;have B:QS ((aD l k).getD (Z U 0)=Z U q):=y;clear x v y;go_enter func88,ntmps88;go_wp2_with(first
  |(go_at_call 136;go_must(refine(ur b k l q _ h B.o).mono ?_;rintro e M ⟨⟨D,rfl⟩,a⟩))
  |(go_at_call 92;go_must(refine(dz m d C _ _ _ (G.ai a k_) (by have:=A.o;omega)).mono ?_;rintro e N ⟨rfl,z,n,i,c⟩))
  |(at_delete;go_must(refine fm _ rfl _ _ 55 3 rfl 3 cY Tryz.underlying55 Tryz.underlying3 b rfl k rfl l ((h.ai a id).ai i u.o) ?_;intro L r j K)))
 go_end0;have p:aa (λk=>k∈C\/k=b) w L:=((a.mono (T:=λk=>k∈C\/k=b) (λ_ _ h=>h.elim)).tr i (λ_ h=>.inl h)).tr j (λ_ h=>.inr h);refine⟨rfl,_,?_,z,n.ai j (λk o e=>?_),p,λk o=>?_,r⟩
 ·simp
 ·have F:k=b:=e;subst F;rcases c k o with g|g
  ·exact u.o g
  ·have:=a.size;omega
 ·rcases c k o with g|g
  ·exact .inl g
  ·have:=a.size;right;omega
theorem uq(b:Nat)(k:Int)(l:List (Int×ax))(q:bB)(w:ab)(h:aQ (Z U) w b l)(f:(aD l k).getD bB.zero.val=q.val):ba prog 162 #[.map (V b),Z U k] w λe r=>(∃a,e=ay (.func (.func 199) #[] a))/\aa n_ w r:=by
 have n:=mf_;obtain⟨c,j,to,m,o,p,i⟩:=q;have g:QS ((aD l k).getD bB.zero.val=.agg #[ao c,Z U j,Z U to,ao m,O o,Z .u32 p,Z U i]):=f;clear f;go_enter func162,ntmps162;go_wp2_with(at_lookup;go_must(refine bC _ rfl _ _ 56 rfl 3 186 cY Tryz.underlying56 Tryz.underlying3 _ (Tryz.Hu _) b rfl k rfl l ((h.ai (aa.alloc n_ _ _) id).ai (aa.alloc n_ _ _) id) ?_;rw[g.o]))
 go_ret;exact⟨⟨_,rfl⟩,((((aa.refl _ w).al _).al _).al _).al _⟩
theorem ET{d:ab}{f:Nat}{g:List ax}{o:Obj}(h:iP w f g C)(a:aa n_ (w.alloc o) d)(b:aa (·∈C) d e):e.heap[w.heap.size]?=V o:=by
 have j:w.heap.size∉C:=λi=>by have:=h.lt _ i;simp at this
 have c:=(a.block w.heap.size (by simp) id).trans (az w o);exact(b.block _ (lg c) j).trans c
theorem tj(m:Nat)(n:List ax)(C:List Nat)(b:Nat)(k:Int)(l:List (Int×ax))(q v:bB)(w:ab)(K:iP w m n C)(h:aQ (Z U) w b l)(N:(aD l k).getD bB.zero.val=q.val)(L:b∉C)(M:n.length<1000000000000):ba prog 112 #[X (V ⟨m,0,Y⟩),.map (V b),Z U k,v.val] w λe D=>e=ay (bt #[])/\∃g F,g.length=n.length+1/\iP D m g F/\aa (λk=>k∈C\/k=b) w D/\(∀k∈F,k∈C\/w.heap.size<=k)/\aQ (Z U) D b (put l k v.val):=by
 have a0:=h.lt;have Q:=E M;have G:=E L;have R:=E N;clear M L N;obtain⟨H,fr,to,hd,nx,sm,ct⟩:=v;simp only[bB.val];go_enter func112,ntmps112;go_wp2_with(first
  |(go_at_call 162;go_must(refine(uq b k l q _ (h.ai (aa.alloc n_ _ _) id) R.o).mono ?_;rintro e w1 ⟨⟨S,rfl⟩,c⟩))
  |(go_at_call 92;go_must(refine(dz m n C _ _ _ (K.ai ((aa.alloc n_ _ _).tr c i_) k_) (by have:=Q.o;omega)).mono ?_;rintro e w2 ⟨rfl,P,o,f,d⟩;have a:=ET K c f;have t:=ae a 0;have u:=ae a 1;have x:=ae a 2;have y:=ae a 3;have z:=ae a 4;have A:=ae a 5;have B:=ae a 6;simp at t u x y z A B;clear a))
  |(at_mapUpdate;go_must(refine fW _ rfl _ _ _ 56 rfl 3 186 cY Tryz.underlying56 Tryz.underlying3 b rfl k rfl _ rfl l ((h.ai ((aa.alloc n_ _ _).tr c i_) id).ai f G.o) ?_;intro w3 s j a1)))
 go_end0;have r:aa (λk=>k∈C\/k=b) w w3:=((((aa.alloc n_ _ _).tr c i_).mono (T:=λk=>k∈C\/k=b) (λ_ _ h=>h.elim)).tr f (λ_ h=>.inl h)).tr j (λ_ h=>.inr h);refine⟨rfl,_,?_,P,o.ai j (λk p e=>?_),r,λk p=>?_,s⟩
 ·simp
 ·have W:k=b:=e;subst W;rcases d k p with i|i
  ·exact G.o i
  ·have:=c.size;simp at this;omega
 ·rcases d k p with i|i
  ·exact .inl i
  ·have:=c.size;simp at this;right;omega
theorem xo(m:Nat)(d:List ax)(C:List Nat)(b:Nat)(k:Int)(l:List (Int×ax))(q:bB)(w:ab)(G:iP w m d C)(h:aQ (Z U) w b l)(y:(aD l k).getD bB.zero.val=q.val)(v:b∉C)(x:d.length<1000000000000):ba prog 118 #[X (V ⟨m,0,Y⟩),.map (V b),Z U k] w λe s=>e=ay (bt #[])/\∃f t,f.length=d.length+1/\iP s m f t/\aa (λk=>k∈C\/k=b) w s/\(∀k∈t,k∈C\/w.heap.size<=k)/\aQ (Z U) s b (del l k):=by
 have H:=h.lt;have A:QS (d.length<1000000000000):=x;have u:QS (b∉C):=v;have B:QS ((aD l k).getD bB.zero.val=q.val):=y;clear x v y;go_enter func118,ntmps118;go_wp2_with(first
  |(go_at_call 162;go_must(refine(uq b k l q _ h B.o).mono ?_;rintro e M ⟨⟨D,rfl⟩,a⟩))
  |(go_at_call 92;go_must(refine(dz m d C _ _ _ (G.ai a k_) (by have:=A.o;omega)).mono ?_;rintro e N ⟨rfl,z,n,i,c⟩))
  |(at_delete;go_must(refine fm _ rfl _ _ 56 3 rfl 186 cY Tryz.underlying56 Tryz.underlying3 b rfl k rfl l ((h.ai a id).ai i u.o) ?_;intro L r j K)))
 go_end0;have p:aa (λk=>k∈C\/k=b) w L:=((a.mono (T:=λk=>k∈C\/k=b) (λ_ _ h=>h.elim)).tr i (λ_ h=>.inl h)).tr j (λ_ h=>.inr h);refine⟨rfl,_,?_,z,n.ai j (λk o e=>?_),p,λk o=>?_,r⟩
 ·simp
 ·have F:k=b:=e;subst F;rcases c k o with g|g
  ·exact u.o g
  ·have:=a.size;omega
 ·rcases c k o with g|g
  ·exact .inl g
  ·have:=a.size;right;omega
theorem Hf(b a:Nat)(w:ab)(d:w.cell? ⟨a,0,Y⟩=V (Z U 0)):CallsD prog 82 #[X (V ⟨b,0,Y⟩),X (V ⟨a,0,Y⟩)] .returning w λe g h=>e=ay (bt #[])/\g=.returning/\h=w:=by refine callsD_of_wpS func82 rfl λc i f=>?_;apply wpS_region;simp[wpOpsS,go_sem,recoverD,f,ntmps82];refine(gj b a w d).mono ?_;rintro e j ⟨rfl,rfl⟩;cases c;simp_all[bodyPostS,results,Tryz.results82]
theorem JP(a b:Nat)(n:Int)(g:1<=n/\n<=9)(w:ab)(d:w.cell? ⟨a,0,Y⟩=V (J Y 0 0))(f:w.cell? ⟨b,0,Y⟩=V (Z U n)):CallsD prog 82 #[X (V ⟨a,0,Y⟩),X (V ⟨b,0,Y⟩)] .returning w λe i j=>e=ay (bt #[])/\i=.returning/\aa n_ w j:=by refine callsD_of_wpS func82 rfl λc k h=>?_;apply wpS_region;simp[wpOpsS,go_sem,recoverD,h,ntmps82];refine(eG a b n g w d f).mono ?_;rintro e m ⟨rfl,l⟩;cases c;simp_all[bodyPostS,results,Tryz.results82]
theorem zS(b a:Nat)(w:ab)(d:w.cell? ⟨a,0,Y⟩=V (Z U 0)):CallsD prog 87 #[X (V ⟨b,0,Y⟩),X (V ⟨a,0,Y⟩)] .returning w λe g h=>e=ay (bt #[])/\g=.returning/\h=w:=by refine callsD_of_wpS func87 rfl λc i f=>?_;apply wpS_region;simp[wpOpsS,go_sem,recoverD,f,ntmps87];refine(gj b a w d).mono ?_;rintro e j ⟨rfl,rfl⟩;cases c;simp_all[bodyPostS,results,Tryz.results87]
theorem DN(a b:Nat)(n:Int)(g:1<=n/\n<=9)(w:ab)(d:w.cell? ⟨a,0,Y⟩=V (J Y 0 0))(f:w.cell? ⟨b,0,Y⟩=V (Z U n)):CallsD prog 87 #[X (V ⟨a,0,Y⟩),X (V ⟨b,0,Y⟩)] .returning w λe i j=>e=ay (bt #[])/\i=.returning/\aa n_ w j:=by refine callsD_of_wpS func87 rfl λc k h=>?_;apply wpS_region;simp[wpOpsS,go_sem,recoverD,h,ntmps87];refine(eG a b n g w d f).mono ?_;rintro e m ⟨rfl,l⟩;cases c;simp_all[bodyPostS,results,Tryz.results87]
theorem zN(b a:Nat)(w:ab)(d:w.cell? ⟨a,0,Y⟩=V (Z U 0)):CallsD prog 109 #[X (V ⟨b,0,Y⟩),X (V ⟨a,0,Y⟩)] .returning w λe g h=>e=ay (bt #[])/\g=.returning/\h=w:=by refine callsD_of_wpS func109 rfl λc i f=>?_;apply wpS_region;simp[wpOpsS,go_sem,recoverD,f,ntmps109];refine(gj b a w d).mono ?_;rintro e j ⟨rfl,rfl⟩;cases c;simp_all[bodyPostS,results,Tryz.results109]
theorem Du(a b:Nat)(n:Int)(g:1<=n/\n<=9)(w:ab)(d:w.cell? ⟨a,0,Y⟩=V (J Y 0 0))(f:w.cell? ⟨b,0,Y⟩=V (Z U n)):CallsD prog 109 #[X (V ⟨a,0,Y⟩),X (V ⟨b,0,Y⟩)] .returning w λe i j=>e=ay (bt #[])/\i=.returning/\aa n_ w j:=by refine callsD_of_wpS func109 rfl λc k h=>?_;apply wpS_region;simp[wpOpsS,go_sem,recoverD,h,ntmps109];refine(eG a b n g w d f).mono ?_;rintro e m ⟨rfl,l⟩;cases c;simp_all[bodyPostS,results,Tryz.results109]
theorem CL(b a:Nat)(w:ab)(d:w.cell? ⟨a,0,Y⟩=V (Z U 0)):CallsD prog 163 #[X (V ⟨b,0,Y⟩),X (V ⟨a,0,Y⟩)] .returning w λe g h=>e=ay (bt #[])/\g=.returning/\h=w:=by refine callsD_of_wpS func163 rfl λc i f=>?_;apply wpS_region;simp[wpOpsS,go_sem,recoverD,f,ntmps163];refine(gj b a w d).mono ?_;rintro e j ⟨rfl,rfl⟩;cases c;simp_all[bodyPostS,results,Tryz.results163]
theorem Ft(a b:Nat)(n:Int)(g:1<=n/\n<=9)(w:ab)(d:w.cell? ⟨a,0,Y⟩=V (J Y 0 0))(f:w.cell? ⟨b,0,Y⟩=V (Z U n)):CallsD prog 163 #[X (V ⟨a,0,Y⟩),X (V ⟨b,0,Y⟩)] .returning w λe i j=>e=ay (bt #[])/\i=.returning/\aa n_ w j:=by refine callsD_of_wpS func163 rfl λc k h=>?_;apply wpS_region;simp[wpOpsS,go_sem,recoverD,h,ntmps163];refine(eG a b n g w d f).mono ?_;rintro e m ⟨rfl,l⟩;cases c;simp_all[bodyPostS,results,Tryz.results163]
theorem Ck(b:Nat)(w:ab):(binOp BinOp.eql 55 (.map (V b)) (.map Y)).run prog w=.ok (ao false) w:=by kernel_rfl
theorem Cj(w:ab):(binOp BinOp.eql 55 (.map Y) (.map Y)).run prog w=.ok (ao true) w:=by kernel_rfl
theorem rY(R:aF)(s:Int)(w:ab)(h:aq w R):ba prog 83 #[X (V ⟨R.sb,0,Y⟩),Z U s] w λe c=>e=ay (ao (decide (R.aK<=s)&&decide (s<=R.now)))/\c=w:=by
 have d:w.cell? ⟨R.sb,0,Y⟩=V (Z U R.now):=h.cell 0;have f:w.cell? ⟨R.sb,1,Y⟩=V (Z U R.aK):=h.cell 1;clear h;by_cases a:R.aK<=s
 ·have b:decide (R.aK<=s)=true:=mI a;go_enter func83,ntmps83;go_wp2;go_ret;exact⟨by simp[a],rfl⟩
 ·have b:decide (R.aK<=s)=false:=kg a;go_enter func83,ntmps83;go_wp2;go_ret;exact⟨by simp,rfl⟩
theorem aq.side{S:Nat->Prop}(h:aq w R)(pm cm:Option Nat)(aN:List (Int×Int))(aB:Int)(aA:List (Int×bB))(f:aa S w e)(g:∀k∈R.wm.toList++R.af.flatMap (λp=>[p.2.eT,p.2.mb])++R.bp,¬S k)(d:e.heap[R.sb]?=V (I (bo {R with pm,aN,aB,cm,aA}) 61 (0,0)))(t:dG (Z U) e pm (aN.map λp=>(p.1,Z U p.2)))(r:dG (Z U) e cm (aA.map λp=>(p.1,p.2.val)))(s:(aF.fp {R with pm,aN,aB,cm,aA}).Nodup):aq e {R with pm,aN,aB,cm,aA}:=by have j:∀k∈R.wm.toList,¬S k:=λk a=>g k (fQ _ (fQ _ a));have l:∀k∈R.af.flatMap (λp=>[p.2.eT,p.2.mb]),¬S k:=λk a=>g k (fQ _ (fx _ a));have i:∀k∈R.bp,¬S k:=λk a=>g k (fx _ a);refine⟨d,⟨h.af.cy.ai f (λb q=>j b (by simp[q])),λp c=>?_,t,r⟩,h.cg.ai f (λk a=>i k a),s⟩;obtain⟨m,o⟩:=h.af.eA p c;have n:∀k,k=p.2.eT\/k=p.2.mb->¬S k:=λk a=>l k (ns.2 ⟨p,c,by simpa using a⟩);exact⟨(f.block _ (lg m) (n _ (.inl rfl))).trans m,o.ai f (n _ (.inr rfl))⟩
theorem bH(R:aF):R.fp.Perm (R.sb::(cL R.pm R.cm++(R.wm.toList++R.af.flatMap (λp=>[p.2.eT,p.2.mb])++R.bp))):=by unfold aF.fp aF.aP;refine List.Perm.cons _ ?_;simp only[mE];refine(RK _ _ _).trans ?_;exact List.Perm.refl _
def kJ(R:aF)(a:List (Int×Int))(w c:ab):Prop:=
 ∃b,aq c {R with pm:=b,aN:=a}/\aa (·∈R.fp) w c/\(b=R.pm\/∃q,b=V q/\w.heap.size<=q)
theorem aq.pinned{r:ab}{b:Nat}{aN:List (Int×Int)}(h:aq w R)(d:R.pm=V b)(o:aa (λk=>k∈C\/k=b) w r)(j:∀k∈C,k∉R.fp)(t:aQ (Z U) r b (aN.map λp=>(p.1,Z U p.2))):aq r {R with aN:=aN}:=by
 have a:=(bH R).nodup_iff.1 h.nodup;have l:b∈cL R.pm R.cm:=by simp[cL,d]
 have s:b∈R.fp:=(bH R).mem_iff.2 (ef _ (fQ _ l));have q:¬(R.sb∈C\/R.sb=b):=by
  rintro(f|e)
  ·exact j _ f (by simp[aF.fp])
  ·rw[ey]at a;exact a.1 (e▸fQ _ l)
 have:=h.side R.pm R.cm aN R.aB R.aA o (λk g=>?_) ((o.block _ h.lt q).trans h.top) (by rw[d];exact t) (h.af.cU.ai o (λc f=>?_)) h.nodup
 ·exact this
 ·rintro(f|e)
  ·exact j k f ((bH R).mem_iff.2 (ef _ (fx _ g)))
  ·subst e;rw[ey,lf]at a;exact a.2.2.2 k l k g rfl
 ·have n:c∈cL R.pm R.cm:=by simp[cL,f]
  rintro(m|e)
  ·exact j c m ((bH R).mem_iff.2 (ef _ (fQ _ n)))
  ·rw[ey,lf]at a;have i:=a.2.1;unfold cL at i;rw[d,f,e]at i;simp at i
theorem OL(a:R.pm=Y)(q:Nat):(aF.fp {R with pm:=V q}).Perm (q::R.fp):=by refine(bH _).trans (List.Perm.trans ?_ ((bH R).symm.cons _));simp only[cL,a,RM,SJ,uE,tI];exact List.Perm.swap _ _ _
theorem aq.MD{t:ab}{q:Nat}(h:aq w R)(n:R.pm=Y)(r:aa (λk=>k∈C\/k=R.sb) w t)(x:∀k∈C,k∉R.fp)(z:aQ (Z U) w q ([]:List (Int×ax)))(s:q∉C)(o:q∉R.fp)(y:t.heap[R.sb]?=(w.setCell ⟨R.sb,4,Y⟩ (.map (V q))).heap[R.sb]?):aq t {R with pm:=V q}:=by
 have f:R.aN=[]:=by have:=h.af.dc;rw[n]at this;have u:(R.aN.map λp=>(p.1,Z U p.2))=[]:=this;simpa using u
 have l:=(bH R).nodup_iff.1 h.nodup;have m:∀k∈R.fp,k≠R.sb->¬(k∈C\/k=R.sb):=λk a b=>by
  rintro(g|e)
  ·exact x k g a
  ·exact b e
 have b:∀k∈cL R.pm R.cm++(R.wm.toList++R.af.flatMap (λp=>[p.2.eT,p.2.mb])++R.bp),k≠R.sb:=λk a e=>by rw[ey]at l;exact l.1 (e▸a)
 have d:∀k∈cL R.pm R.cm++(R.wm.toList++R.af.flatMap (λp=>[p.2.eT,p.2.mb])++R.bp),k∈R.fp:=λk a=>(bH R).mem_iff.2 (ef _ a);have:=h.side (V q) R.cm R.aN R.aB R.aA r (λk a=>m k (d k (fx _ a)) (b k (fx _ a))) ?_ ?_ (h.af.cU.ai r (λc g=>?_)) ((OL n q).nodup_iff.2 (ey.2 ⟨o,h.nodup⟩))
 ·exact this
 ·rw[y];exact h.set (R':={R with pm:=V q}) (i:=4) (v:=.map (V q)) rfl (by simp[bo])
 ·rw[f];exact aQ.ai z r (by
   rintro(g|e)
   ·exact s g
   ·exact o (by rw[e];simp[aF.fp]))
 ·have j:c∈cL R.pm R.cm:=by simp[cL,g]
  exact m c (d c (fQ _ j)) (b c (fQ _ j))
theorem Oj(R:aF)(s:Int)(w:ab)(h:aq w R)(i:(decide (R.aK<=s)&&decide (s<=R.now))=false):ba prog 33 #[X (V ⟨R.sb,0,Y⟩),Z U s] w λe m=>e=ay (Z U 5)/\aa n_ w m:=by
 have l:=mf_;have b:=rY R s _ (h.ai (((aa.refl n_ w).al (I #[Z U 0] 71)).al (I #[J Y 0 0] 114)) k_);rw[i]at b;have j:=E b;clear i h b;generalize R.sb=n at*;go_enter_defers func33,ntmps33;go_wp2_with(go_at_call 83;go_must(refine(j.o).mono ?_;rintro e q ⟨rfl,rfl⟩))
 refine leaves_cons (f:=82) (args:=#[X (V ⟨w.heap.size+1,0,Y⟩),X (V ⟨w.heap.size,0,Y⟩)]) (by simp) (by simp[go_sem]) ?_;refine(JP (w.heap.size+1) w.heap.size 5 (by omega) _ ?_ ?_).mono ?_
 ·simp[go_sem]
 ·simp[go_sem]
 rintro e o c ⟨rfl,rfl,g⟩;have k:c.cell? ⟨w.heap.size,0,Y⟩=V (Z U 5):=g.cell (p:=⟨w.heap.size,0,Y⟩) (by simp[go_sem]) id;simp[Leaves,settle,results,Tryz.results33,go_sem,k];exact(((aa.refl _ w).al _).al _).tr g i_
theorem CT(l:List (Int×Int))(s c:Int):put (l.map λp=>(p.1,Z U p.2)) s (Z U c)=(put l s c).map λp=>(p.1,Z U p.2):=oj (λz:Int=>Z U z) l s c
theorem MC(R:aF)(s:Int)(w:ab)(h:aq w R)(b:Nat)(a:R.pm=V b)(hs:(decide (R.aK<=s)&&decide (s<=R.now))=true)(Q:0<=(aD R.aN s).getD 0)(S:(aD R.aN s).getD 0<=1000000000000000):ba prog 33 #[X (V ⟨R.sb,0,Y⟩),Z U s] w λe w'=>e=ay (Z U 0)/\kJ R (put R.aN s ((aD R.aN s).getD 0+1)) w w':=by
 have a9:=mf_;have a6:=Ck;have n:aa n_ w ((w.alloc (I #[Z U 0] 71)).alloc (I #[J Y 0 0] 114)):=((aa.refl n_ w).al _).al _;have C:=h.ai n k_;have T:=rY R s _ C;rw[hs]at T;have HH:=E T;have x:b∈R.fp:=(bH R).mem_iff.2 (ef _ (fQ _ (by simp[cL,a])));have a5:=bG h _ x;have a8:=h.lt;have a1:R.sb≠b:=λe=>by have A:=(bH R).nodup_iff.1 h.nodup;rw[ey]at A;exact A.1 (e▸fQ _ (by simp[cL,a]))
 have c4:w.cell? ⟨R.sb,4,Y⟩=V (.map (V b)):=(h.cell 4).trans (by rw[<-a];rfl);have M:aQ (Z U) ((w.alloc (I #[Z U 0] 71)).alloc (I #[J Y 0 0] 114)) b (R.aN.map λp=>(p.1,Z U p.2)):=by have:=C.af.dc;rw[a]at this;exact this
 obtain⟨c,m⟩:∃c,(aD R.aN s).getD 0=c:=⟨_,rfl⟩
 rw[m]at Q S;have HC:=E m;have d:(aD (R.aN.map λp=>(p.1,Z U p.2)) s).getD (Z U 0)=Z U c:=by rw[cd (λz:Int=>Z U z),<-m];cases aD R.aN s<;>rfl
 have y:=(M.ai (aa.drew n_ _) id).lookup (P:=prog) (t:=55) cY Tryz.underlying55 Tryz.underlying3 (Tryz.lM _) s false;simp only[vg,RL,d]at y;have L:=E (show IntKind.i64.wrap (c+1)=c+1 from IntWalk.i64_in _ ⟨by omega,by omega⟩);have hE:=tk (w.heap.size+1) [] [w.heap.size+1] b s _ c (IntKind.i64.wrap (c+1)) _ ((fU w (I #[Z U 0] 71)).ai (aa.drew n_ _) k_) (M.ai (aa.drew n_ _) id) d (by simp;omega) (by simp);have HE:=E hE;have r:=E h;have K:=E a;have HW:=E C;have G:=E n;clear hs h T M a hE d C m n;go_enter_defers func33,ntmps33;go_wp2_with(go_at_call 83;go_must(refine(HH.o).mono ?_;rintro e w1 ⟨rfl,rfl⟩))
 go_region_held3(λW=>W.cell? ⟨R.sb,4,Y⟩=V (.map (V b))) (go_keep) (first|(go_at_call 85;refine(HE.o).mono ?_;rintro e B ⟨rfl,a3,C2,a7,a4,l,a2,o⟩;rw[L.o]at o;have q4:=l.cell (p:=⟨R.sb,4,Y⟩) ((((aa.refl n_ w).al _).al _).dr.cell c4 id) (by rintro(e|e);((simp at e);omega);exact a1 e)));have j:B.heap[w.heap.size]?=V (I #[Z U 0] 71 (0,0)):=by rw[l.block w.heap.size (by simp[World.drew];omega) (by rintro(m|m);(simp at m);omega)];exact(Below.heap_alloc _ _ _ (by simp)).trans (az w _)
 have y0:B.cell? ⟨w.heap.size,0,Y⟩=V (Z U 0):=ae j 0;have y1:B.frozen? ⟨w.heap.size,0,Y⟩=false:=aj j 0;have F:=E j;have H:=E o;have q:=E l;clear j o l y;go_wp2;refine leaves_cons (f:=82) (args:=#[X (V ⟨w.heap.size+1,0,Y⟩),X (V ⟨w.heap.size,0,Y⟩)]) (by simp) (by simp[go_sem]) ?_;have v:=ak (i:=0) F.o (Z U 0);refine(Hf (w.heap.size+1) w.heap.size _ ?_).mono ?_
 ·exact ae v 0
 rintro e u' b0 ⟨rfl,rfl,rfl⟩;have g:kJ R (put R.aN s ((aD R.aN s).getD 0+1)) w (B.setCell ⟨w.heap.size,0,Y⟩ (Z U 0)):=by
  have hm:=H.o;rw[CT]at hm;have s1:=(HW.o.ai (aa.drew n_ _) k_).pinned K.o q.o (λk D hf=>by have:=bG r.o k hf;simp at D;omega) hm;rw[HC.o];refine⟨R.pm,s1.ai (aa.setCell _ _ _) (λk D e=>?_),?_,.inl rfl⟩
  ·have e':k=w.heap.size:=e;have a0:k∈R.fp:=D;have:=bG r.o k a0;omega
  ·refine(((G.o.dr).mono (λ_ _ h=>h.elim)).trans q.o (λk D h=>?_)).st (.inl (eb _)) _;rcases h with h|h
   ·simp at h;omega
   ·rw[h];exact x
 have N:=ae v 0;generalize B.setCell ⟨w.heap.size,0,Y⟩ (Z U 0)=W3 at g N;simp at N;simp[Leaves,settle,results,Tryz.results33,go_sem,N];exact g
end Go.Proofs.YtjbkfdeldlajhaaGreatDoor
