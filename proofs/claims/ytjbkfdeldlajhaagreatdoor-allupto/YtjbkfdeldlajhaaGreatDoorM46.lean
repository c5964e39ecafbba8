import Derived.Test.YtjbkfdeldlajhaaGreatDoorM45
set_option linter.unusedSimpArgs false
namespace Go.Proofs.YtjbkfdeldlajhaaGreatDoor
set_option maxRecDepth 100000
set_option maxHeartbeats 1000000
open Go.ChangeShapes Go.WideShapes Go.ChangeAt Go.RowKit Go.Deep Go.Proofs.Tryz
open Option renaming none->Y,some->V
open Go.IntKind renaming i64->U
open Go.Value renaming string->O,slice->J,bool->ao,pointer->X
open Go renaming World->ab,Value->ax,TypeId->cI,Calls->ba
open Go.Obj renaming cells->I
open Go.Ending renaming returned->ay
variable{W:ab}{c l q p:Nat}{j:Nat->Bool}
theorem Tryz.NP:prog.cellsOf 30=11:=by kernel_rfl
theorem Tryz.Am:prog.cellsOf 25=1:=by kernel_rfl
theorem Tryz.Lm:prog.cellsOf 70=3:=by kernel_rfl
theorem Tryz.Ln:prog.cellsOf 28=4:=by kernel_rfl
theorem Tryz.BR:prog.cellsOf 3=1:=by kernel_rfl
theorem Tryz.pw:prog.cellsOf 9=1:=by kernel_rfl
theorem Tryz.sW:prog.cellsOf 4=1:=by kernel_rfl
theorem Tryz.IA:prog.cellsOf 26=1:=by kernel_rfl
theorem Ll{H:Type}(d:DataW H):1<=Rows.uptoBulk d:=by
 cases d with
 |lit l=>cases l<;>simp[Rows.uptoBulk]
 |_=>simp[Rows.uptoBulk]
theorem pq{H:Type}(l:List (DataW H)):l.length<=Rows.uptoBulkAll l:=by
 induction l with
 |nil=>simp
 |cons x r ih=>
  have:=Ll x;simp only[Rows.uptoBulkAll,fN];omega
theorem BQ{H:Type}{d:DataW H}{l:List (DataW H)}(h:d∈l):Rows.uptoBulk d<=Rows.uptoBulkAll l:=by
 induction l with
 |nil=>cases h
 |cons x r ih=>
  simp only[Rows.uptoBulkAll];rcases cT.1 h with rfl|h
  ·omega
  ·have:=ih h;omega
theorem vJ(b a j:Nat):(⟨b,a,Y⟩:Addr).add j=⟨b,a+j,Y⟩:=by
 unfold Addr.add;by_cases c:j=0
 ·simp[c]
 ·simp[c]
theorem Gj{H:Type}{w:cI×ax->H}{k:Nat->Bool}{u:Bool}{o:Nat}{K:Option Addr}{x:DataW H×List MemPlace}(h:DataW.trod w prog W l k u q 25 [.slice K c o]=V x):∃G:List ByteArray,G.length=c/\lh W K G/\c<=Rows.uptoBulk x.1/\∀t∈G,t.size<=Rows.uptoBulk x.1:=by
 rcases open_slice Tryz.underlying25 h with⟨d,_⟩|⟨a,a2,P,m,n,D,Pl,d,_,hl,hm,B,hx,A⟩
 ·simp at d;obtain⟨rfl,rfl,rfl⟩:=d;exact⟨[],rfl,λi f=>absurd f (Sr _),eL _,λt C=>by cases C⟩
 ·simp at d;obtain⟨rfl,rfl,rfl⟩:=d;have a1:c<=m:=by rw[B];split<;>omega
  have p:∀i,i<c->∃s:ByteArray,W.cell? (a.add i)=V (.string s)/\Rows.uptoBulk (D i)=s.size+1:=by intro i f;obtain⟨Q,r,M⟩:=A i (by omega);rw[Tryz.pw]at r;obtain⟨_,N,e⟩:=World.cells?_some r;obtain⟨s,T,hd,-⟩:=DataW.trod_string Tryz.underlying9 M;subst T;have L:=e 0 (by omega);rw[add_add]at L;refine⟨s,by simpa using L,?_⟩;have z:D i=.lit (.string s.data.toList):=(TV hd).1;rw[z];rfl
  obtain⟨S,y⟩:=@choose_lt ByteArray ⟨ByteArray.empty⟩ c _ p;have hb:Rows.uptoBulkAll ((List.range c).map D)<=Rows.uptoBulk x.1:=by rw[hx];simp only[Rows.uptoBulk];omega
  refine⟨(List.range c).map S,by simp,λi f=>?_,?_,λt C=>?_⟩
  ·have g:i<c:=by simpa using f
   obtain⟨b,F,v⟩:=a;have j:v=Y:=by have R:=(y 0 (by omega)).1;simpa[Addr.add]using World.cell?_spot R
   subst j;have r:=(y i g).1;rw[vJ]at r;refine⟨b,F,rfl,?_⟩;rw[r];simp
  ·have:=pq ((List.range c).map D);simp only[hO,SY]at this;omega
  ·obtain⟨i,f,rfl⟩:=fI.1 C;have g:i<c:=by simpa using f
   have M:=(y i g).2;have h3:=BQ (fI.2 ⟨i,f,rfl⟩:D i∈(List.range c).map D);omega
theorem JZ{H:Type}{A:cI×ax->H}{v:Bool}{u:Nat}{N:Option Addr}{x:DataW H×List MemPlace}(h:DataW.trod A prog W p j v u 26 [J N c q]=V x):∃l:List an,l.length=c/\cG W N l/\c<=Rows.uptoBulk x.1/\∀r∈l,r.key.size<=maxLen/\r.value.size<=maxLen:=by
 rcases open_slice Tryz.underlying26 h with⟨e,_⟩|⟨a,a4,a1,m,n,D,Pl,e,_,hl,hm,G,hx,C⟩
 ·simp at e;obtain⟨rfl,rfl,rfl⟩:=e;exact⟨[],rfl,λi o=>absurd o (Sr _),eL _,λt K=>by cases K⟩
 ·simp at e;obtain⟨rfl,rfl,rfl⟩:=e;have a2:c<=m:=by rw[G];split<;>omega
  have s:∀i,i<c->∃r:an,(W.cell? (a.add (i*3))=V (O r.key)/\W.cell? (a.add (i*3+1))=V (O r.value)/\W.cell? (a.add (i*3+2))=V (ao r.aO))/\r.key.size<=maxLen/\r.value.size<=maxLen:=by
   intro i o;obtain⟨z,h1,h2⟩:=C i (by omega);rw[Tryz.Lm]at h1;obtain⟨_,w,d⟩:=World.cells?_some h1;obtain⟨xs,k,hk,a3,_,L,F⟩:=DataW.trod_struct Tryz.underlying70 h2;match xs,L,z,w with
   |[y0,y1,y2],_,[v0,v1,v2],_=>
    have g0:=F 0 _ rfl;have g1:=F 1 _ rfl;have g2:=F 2 _ rfl;simp[Tryz.sW,Tryz.pw]at g0 g1 g2;have T:=d 0 (by omega);have e1:=d 1 (by omega);have e2:=d 2 (by omega);rw[add_add]at T e1 e2;obtain⟨s0,P,_,w0⟩:=DataW.trod_string Tryz.underlying9 g0;obtain⟨s1,Q,_,w1⟩:=DataW.trod_string Tryz.underlying9 g1;obtain⟨b2,R,_⟩:=DataW.trod_bool Tryz.underlying4 g2;simp at P Q R;subst P Q R;exact⟨⟨s0,s1,b2⟩,⟨by simpa using T,by simpa using e1,by simpa using e2⟩,w0,w1⟩
  obtain⟨S,B⟩:=@choose_lt an ⟨⟨ByteArray.empty,ByteArray.empty,false⟩⟩ c _ s;refine⟨(List.range c).map S,by simp,λi o=>?_,?_,λt K=>?_⟩
  ·have f:i<c:=by simpa using o
   obtain⟨b,M,y⟩:=a;have g:y=Y:=by have h0:=(B 0 (by omega)).1.1;simpa[Addr.add]using World.cell?_spot h0
   subst g;obtain⟨q0,q1,q2⟩:=(B i f).1;rw[vJ]at q0 q1 q2;refine⟨b,M,rfl,?_,?_,?_⟩
   ·rw[q0];simp
   ·rw[Nat.add_assoc,q1];simp
   ·rw[Nat.add_assoc,q2];simp
  ·rw[hx];have:=pq ((List.range c).map D);simp only[hO,SY]at this;simp only[Rows.uptoBulk];omega
  ·obtain⟨i,o,rfl⟩:=fI.1 K;have f:i<c:=by simpa using o
   exact(B i f).2
theorem Hp{H:Type}{k:cI×ax->H}{f:Nat}{d:Nat->Bool}{i:Bool}{g:Nat}{t e:cI}{v:ax}{x:DataW H×List MemPlace}(p:prog.underlying t=V (.slice e))(h:DataW.trod k prog W f d i g t [v]=V x):∃a l c,v=J a l c:=by
 rcases open_slice p h with⟨b,_⟩|⟨a,o,j,m,n,D,q,b,_⟩
 ·exact⟨Y,0,0,by simpa using b⟩
 ·exact⟨V a,o,j,by simpa using b⟩
theorem wf_i64{n:Int}(h:(Lit.int U n).wf=true):-9223372036854775808<=n/\n<=9223372036854775807:=by have:=bounds_i64 h;omega
theorem Og{H:Type}{z:cI×ax->H}{m:Nat->Bool}{o:Bool}{n:Nat}{a:Addr}{y:List ax}{x:DataW H×List MemPlace}(h1:W.cells? c a 11=V y)(h2:DataW.trod z prog W c m o n 30 y=V x)(hb:Rows.uptoBulk x.1<=1048576):∃s:qv×List ByteArray×List an,a.spot=Y/\Hy W a.block a.off s.1/\oV W s.1 s.2.1 s.2.2:=by
 obtain⟨_,p,h⟩:=World.cells?_some h1;obtain⟨xs,k,hk,M,_,L,d⟩:=DataW.trod_struct Tryz.underlying30 h2;match xs,L,y,p with
 |[y0,y1,y2,y3,y4,y5,y6,y7],_,[v0,v1,v2,v3,v4,v5,v6,v7,v8,v9,v10],_=>
  have g0:=d 0 _ rfl;have g1:=d 1 _ rfl;have g2:=d 2 _ rfl;have g3:=d 3 _ rfl;have g4:=d 4 _ rfl;have g5:=d 5 _ rfl;have A:=d 6 _ rfl;have g7:=d 7 _ rfl;simp[Tryz.BR,Tryz.pw,Tryz.sW,Tryz.Am,Tryz.Ln]at g0 g1 g2 g3 g4 g5 A g7;obtain⟨zs,k7,_,P,_,N,r⟩:=DataW.trod_struct Tryz.underlying28 g7;match zs,N with
  |[z0,z1,z2,z3],_=>
   have r0:=r 0 _ rfl;have r1:=r 1 _ rfl;have r2:=r 2 _ rfl;have S:=r 3 _ rfl;simp[Tryz.BR,Tryz.sW,Tryz.IA]at r0 r1 r2 S;obtain⟨n0,T,_,w0⟩:=DataW.trod_int Tryz.underlying3 g0;obtain⟨n1,c1,_,w1⟩:=DataW.trod_int Tryz.underlying3 g1;obtain⟨n2,c2,_,w2⟩:=DataW.trod_int Tryz.underlying3 g2;obtain⟨s3,c3,_,w3⟩:=DataW.trod_string Tryz.underlying9 g3;obtain⟨v,c4,d4,w4⟩:=DataW.trod_string Tryz.underlying9 g4;obtain⟨b5,c5,_⟩:=DataW.trod_bool Tryz.underlying4 g5;obtain⟨a6,l6,k6,rfl⟩:=Hp Tryz.underlying25 A;obtain⟨b7,c7,_⟩:=DataW.trod_bool Tryz.underlying4 r0;obtain⟨n8,c8,_,w8⟩:=DataW.trod_int Tryz.underlying3 r1;obtain⟨n9,c9,_,w9⟩:=DataW.trod_int Tryz.underlying3 r2;obtain⟨w,R,Q,rfl⟩:=Hp Tryz.underlying26 S;obtain⟨ts,F,G,a1,K⟩:=Gj A;obtain⟨rs,B,C,a0,D⟩:=JZ S;have hX:x.1=.agg [y0.1,y1.1,y2.1,y3.1,y4.1,y5.1,y6.1,y7.1]:=by rw[M];simp
   have hY:y7.1=.agg [z0.1,z1.1,z2.1,z3.1]:=by rw[P];simp
   have h4:y4.1=.lit (.string v.data.toList):=by rw[d4]
   have b4:Rows.uptoBulk y4.1=v.size+1:=by rw[h4];rfl
   rw[hX]at hb;simp only[Rows.uptoBulk,Rows.uptoBulkAll,hY]at hb;simp at T c1 c2 c3 c4 c5 c7 c8 c9;subst T c1 c2 c3 c4 c5 c7 c8 c9;have e:=λj (u:j<11)=>h j u;obtain⟨b,l,f⟩:=a;have i:f=Y:=by have h0:W.cell? ((⟨b,l,f⟩:Addr).add 0)=V (.int .i64 n0):=e 0 (by omega);have g:=World.cell?_spot h0;unfold Addr.add at g;rw[fy rfl]at g;exact g
   subst i;have ea:∀j,(⟨b,l,Y⟩:Addr).add j=⟨b,l+j,Y⟩:=λj=>by
    unfold Addr.add;by_cases u:j=0
    ·simp[u]
    ·simp[u]
   have q0:=e 0 (by omega);have q1:=e 1 (by omega);have q2:=e 2 (by omega);have q3:=e 3 (by omega);have q4:=e 4 (by omega);have q5:=e 5 (by omega);have q6:=e 6 (by omega);have q7:=e 7 (by omega);have q8:=e 8 (by omega);have q9:=e 9 (by omega);have q:=e 10 (by omega);rw[ea]at q0 q1 q2 q3 q4 q5 q6 q7 q8 q9 q;exact⟨(⟨n0,n1,n2,s3,v,b5,a6,l6,k6,b7,n8,n9,w,R,Q⟩,ts,rs),rfl,⟨by simpa using q0,by simpa using q1,by simpa using q2,by simpa using q3,by simpa using q4,by simpa using q5,by simpa using q6,by simpa using q7,by simpa using q8,by simpa using q9,by simpa using q,wf_i64 w0,wf_i64 w2,w3,w4⟩,⟨F.symm,B.symm,G,C,by show ts.length<=_;omega,λt ht=>by have:=K t ht;omega,by show rs.length<=_;omega,D,by show v.size<=_;omega⟩⟩
theorem CQ{H:Type}{u:cI×ax->H}{k:Nat}{r:Bool}{z:Option Addr}{x:DataW H×List MemPlace}(h:DataW.trod u prog W k j r p 22 [J z c l]=V x)(A:Rows.uptoBulk x.1<=1048576):∃S:Nat->qv×List ByteArray×List an,oW W z c (λi=>(S i).1)/\(∀i,i<c->oV W (S i).1 (S i).2.1 (S i).2.2)/\c<=1048576:=by
 rcases open_slice Tryz.underlying22 h with⟨d,_⟩|⟨a,N,B,m,n,D,P,d,_,R,T,y,M,w⟩
 ·simp at d;obtain⟨rfl,rfl,rfl⟩:=d;exact⟨λ_=>(⟨0,0,0,ByteArray.empty,ByteArray.empty,false,Y,0,0,false,0,0,Y,0,0⟩,[],[]),λi e=>absurd e (Sr _),λi e=>absurd e (Sr _),eL _⟩
 ·simp at d;obtain⟨rfl,rfl,rfl⟩:=d;have L:c<=m:=by rw[y];split<;>omega
  have K:Rows.uptoBulkAll ((List.range c).map D)<=1048576:=by rw[M]at A;simp only[Rows.uptoBulk]at A;omega
  have o:∀i,i<c->∃s:qv×List ByteArray×List an,(a.add (i*11)).spot=Y/\Hy W (a.add (i*11)).block (a.add (i*11)).off s.1/\oV W s.1 s.2.1 s.2.2:=by intro i e;obtain⟨C,q,G⟩:=w i (by omega);rw[Tryz.NP]at q;have Q:=BQ (fI.2 ⟨i,TN.2 e,rfl⟩:D i∈(List.range c).map D);exact Og q G (by show Rows.uptoBulk (D i)<=_;omega)
  obtain⟨S,v⟩:=@choose_lt (qv×List ByteArray×List an) ⟨(⟨0,0,0,ByteArray.empty,ByteArray.empty,false,Y,0,0,false,0,0,Y,0,0⟩,[],[])⟩ c _ o;refine⟨S,λi e=>?_,λi e=>(v i e).2.2,?_⟩
  ·obtain⟨b,t,f⟩:=a;have F:=(v 0 (by omega)).1;have g:f=Y:=by simpa[Addr.add]using F
   subst g;have q:=(v i e).2.1;rw[vJ]at q;exact⟨b,t,rfl,q⟩
  ·have:=pq ((List.range c).map D);simp only[hO,SY]at this;omega
theorem Tryz.own:ownKnob prog.godebug=Y:=by kernel_rfl
theorem Tryz.laidOut:laidOutB prog=true:=by kernel_rfl
def Qw:DataW Unit->ByteArray
 |.iface _ (.ptr (.agg [.lit (.string bs)]))=>⟨bs.toArray⟩
 |_=>⟨#[]⟩
def QI:DataW Unit->List ax
 |.agg l=>l.map λ
  |.lit (.int k n)=>.int k n
  |_=>.int .u32 0
 |_=>[]
def FH(P:Program)(h:Array Obj)(a:String)(b:Array ax):Array Obj:=match P.globalNamed a with
 |some g=>h.modify g λ
  |.cells _ t frozen=>I b t frozen
  |o=>o
 |none=>h
def mY(P:Program)(b:List (String×DataW Unit))(a:DataW Unit)(c:Os):ab:=
 let N:=(World.settled P c).heap.size;let L:=b.drop 2;let d:=World.holding P c ⟨(L.map λx=>I #[O (Qw x.2)] 353).toArray,#[],[]⟩;let e:=FH P d.heap "errors.errorType" #[.iface 274 (.agg #[X (V ⟨16,159,Y⟩)])];let f:=FH P e "annals/stream.turns" (QI a).toArray;{d with heap:=L.zipIdx.foldl (λh x=>FH P h x.1.1 #[.iface 335 (X (V ⟨N+x.2,0,Y⟩))]) f}
theorem Cx(b:Os)(a:Array ax):laidMetH prog Rows.copiesUptoRow.laid ((mY prog Rows.copiesUptoRow.laid Rows.laid_annals_stream_turns b).forCall (λ_ _=>0) ⟨#[],a,[]⟩).memory:=
 laidMetH_of_parts (laidMet_of_run' 8 (by kernel_rfl) (by kernel_rfl)) (by kernel_rfl)
theorem yw(c:Option Addr)(a b:Nat)(S:Nat->qv)(T:Nat->List ByteArray)(R:Nat->List an)(w:ab)(h:oW w c a S)(g:∀i,i<a->oV w (S i) (T i) (R i))(f:a<=2000000)(d:gK w):ba prog 3 #[J c a b] w λe m=>e=ay (ao true)/\aa n_ w m:=by
 have k:=E (zy c a b S T R w h g f d);clear h g f d;go_enter func3,ntmps3;go_wp2_with(go_at_call 5;go_must(refine(k.o).mono ?_;rintro e n ⟨rfl,j⟩;have l:=E j;clear j))
 go_ret;exact⟨rfl,l.o⟩
theorem Az(c:Os){H:Type}(b:cI×ax->H):∃a,DataW.whole b prog ((mY prog Rows.copiesUptoRow.laid Rows.laid_annals_stream_turns c).forCall (λ_ _=>0) ⟨#[],#[J Y 0 0],[]⟩).memory Tryz.f3.params.toList Rows.copiesSpec.vars false #[J Y 0 0].toList 8=V ([.nil],[],a):=
 ⟨[],by kernel_rfl⟩
theorem yo(y:Os)(g:y.Started)(H:Type)(c:cI×ax->H)(F:Stop.Interp):ReturnsInHanded {} Tryz.checked y 3 .any ((Rows.OpenSpec.upto Rows.copiesSpec).preRow c prog Tryz.f3 Rows.copiesUptoRow.domain false Rows.copiesUptoRow.laid) (((Rows.OpenSpec.upto Rows.copiesSpec).at F).post c prog Tryz.f3 false true false false):=by
 obtain⟨A,hx⟩:=Az y c;refine returnsInHanded_of_row (C:=Tryz.checked) (s:=Rows.OpenSpec.upto Rows.copiesSpec) Tryz.own g (by kernel_rfl) func3 (witness_row_atRef (enc:=c) (C:=Tryz.checked) false (mY prog Rows.copiesUptoRow.laid Rows.laid_annals_stream_turns y) #[J Y 0 0] rfl (by kernel_rfl) (by kernel_rfl) (by kernel_rfl)
  (OpenSpec.preRow_of_cond 8 hx (by kernel_rfl) (λk K=>by cases K;kernel_rfl) (by kernel_rfl) (Cx y _))) ?_
 intro W o a ds gs z f T _ d _ n _ _;have l:∀(j:Nat) t v,Tryz.f3.params[j]?=V t->a[j]?=V v->Value.okWide prog W .any o t v:=f;have D:=T;obtain⟨p,q,w,hV,rfl,a2,a3⟩:=T;have R:DataW.TrodAll c prog W 0 (λ_=>true) true Tryz.f3.params.toList a.toList ds p:=w;rw[Tryz.params3]at R l;obtain⟨v0,a4,B,a1,p0,q0,G,rfl,rfl,Q,r0⟩:=trodAll_cons R;obtain⟨rfl,rfl,rfl⟩:=trodAll_nil r0;obtain rfl:a=#[v0]:=by cases a;simp_all
 obtain⟨rfl,rfl⟩:=trodVars_none hV;obtain⟨N,b,u,rfl⟩:=okWide_slice Tryz.underlying22 (l 0 22 v0 rfl rfl);have k0:=Q;have L:∀x∈p0,x.block<W.heap.size:=by obtain⟨m,hm⟩:=k0;exact DataW.trod_lt m _ _ _ hm
 have hb:Rows.uptoBulkAll ([B]++[])<=1048576:=RC (d _ rfl);obtain⟨M,t0,m0,l0⟩:∃S:Nat->qv×List ByteArray×List an,oW W N b (λi=>(S i).1)/\(∀i,i<b->oV W (S i).1 (S i).2.1 (S i).2.2)/\b<=1048576:=by obtain⟨P,hf⟩:=Q;exact CQ (x:=(B,p0)) (by simpa[Value.cells]using hf) (by simp only[Kp,Rows.uptoBulkAll]at hb;show Rows.uptoBulk B<=_;omega)
 clear w f d;refine(yw N b u _ (λi=>(M i).2.1) (λi=>(M i).2.2) W t0 m0 (by omega) (rW n)).mono λe W' ⟨he,K⟩=>?_;subst he;have r:Below W.heap.size W W':=K.toBelow (eb _) k_;exact⟨_,rfl,_,_,_,[],_,[],D,trodAll_mk1 (shut_bool Tryz.underlying4 _),(trodAll_cons_mk (Below.trod Tryz.laidOut (by kernel_rfl) (RC (by kernel_rfl)) k0 r L) trodAll_mk0),rfl,r.frame _,λh=>by cases h⟩
end Go.Proofs.YtjbkfdeldlajhaaGreatDoor
