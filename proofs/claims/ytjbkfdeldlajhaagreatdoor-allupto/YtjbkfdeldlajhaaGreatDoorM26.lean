import Derived.Test.YtjbkfdeldlajhaaGreatDoorM25
set_option linter.unusedSimpArgs false
namespace Go.Proofs.YtjbkfdeldlajhaaGreatDoor
set_option maxRecDepth 100000
set_option maxHeartbeats 4000000
open Go.RowKit Go.Shelf Go.Proofs.Tryz
open Go.Value renaming int->Z,slice->J,bool->ao,string->O,tuple->bt,pointer->X
open Go.IntKind renaming i64->U
open Go renaming World->ab,Calls->ba,Value->ax,TypeId->cI
open Go.Ending renaming returned->ay
open Option renaming some->V,none->Y
open Go.Obj renaming cells->I
variable{a:ByteArray}{w e:ab}{b l x:List UInt8}{c d n j k m g:Nat}{done:List Rec}{P:Program}
section
attribute [local go_sem] Oper.semAt_some
theorem Ka(c:Bool)(a b:Int)(k:Option Addr)(f:Nat)(n:Nat)(w:ab)(h:(kN c a b&&decide (n<=1000))=false):ba prog 95 #[.agg #[ao c,Z U a,Z U b,J k n f]] w λe l=>e=ay (ao false)/\aa n_ w l:=by
 by_cases m:a<0
 ·clear h;go_enter func95,ntmps95;go_wp2;go_ret;exact⟨rfl,(aa.refl _ _).al _⟩
 by_cases o:b<0
 ·clear h;go_enter func95,ntmps95;go_wp2;go_ret;exact⟨rfl,(aa.refl _ _).al _⟩
 by_cases p:a>1000000000
 ·clear h;go_enter func95,ntmps95;go_wp2;go_ret;exact⟨rfl,(aa.refl _ _).al _⟩
 by_cases q:b>1000000000
 ·clear h;go_enter func95,ntmps95;go_wp2;go_ret;exact⟨rfl,(aa.refl _ _).al _⟩
 by_cases r:(n:Int)>1000
 ·clear h;go_enter func95,ntmps95;go_wp2;go_ret;exact⟨rfl,(aa.refl _ _).al _⟩
 have g:n<=1000:=by omega
 rw[mI g,Bool.and_true]at h;have d:(c=true->a≠0)/\(c=false->a>=b):=by
  unfold kN gB at h;rw[mI (show 0<=a by omega),mI (show a<=1000000000 by omega),mI (show 0<=b by omega),mI (show b<=1000000000 by omega)]at h;refine⟨λe i=>?_,λe=>?_⟩
  ·rw[e,i]at h;simp at h
  ·rw[e]at h;simp at h;omega
 clear h g;cases c with
 |true=>
  have j:=d.1 rfl;clear d;go_enter func95,ntmps95;go_wp2;go_ret;exact⟨rfl,(aa.refl _ _).al _⟩
 |false=>
  have j:=d.2 rfl;clear d;go_enter func95,ntmps95;go_wp2;go_ret;exact⟨rfl,(aa.refl _ _).al _⟩
theorem zG(c:Bool)(a b:Int)(f:Option Addr)(d:Nat)(l:List an)(w:ab)(g:cG w f l)(i:∀r∈l,r.key.size<=maxLen/\r.value.size<=maxLen):ba prog 95 #[.agg #[ao c,Z U a,Z U b,J f l.length d]] w λe j=>e=ay (ao (cC c a b l))/\aa n_ w j:=by
 cases h:(kN c a b&&decide (l.length<=1000))with
 |false=>
  have e:cC c a b l=false:=by unfold cC;rw[h];rfl
  rw[e];exact Ka c a b f d l.length w h
 |true=>
  rw[ss,tT]at h;exact FO c a b f d l w g h.2 i h.1
theorem og{full:Bool}{a b:Nat}{l:List an}(e:a<=1000000000)(f:b<=1000000000)(h:l.length<=1000)(g:Small l):∀t∈bI full a b l,t.size<=10000:=by
 intro t d;unfold bI at d;rcases cQ.1 d with d|d
 ·exact kf e f g t d
 ·rw[QZ.1 d,bn];unfold iO;have i:=cj 8 0 (by omega);have j:=cj 8 l.length (by omega);simp only[hQ]
  have:∀c,(tR c).length=4:=λ_=>rfl
  rw[this];omega
theorem qX(c:Bool)(a b:Nat){l:List an}(d:l.length<=1000):(bI c a b l).length<=300/\1<=(bI c a b l).length:=by unfold bI;rw[hQ,fN,gV];simp;omega
theorem mx(c:Bool)(a b:Int)(f:Option Addr)(d:Nat)(l:List an)(w:ab)(j:cG w f l)(k:∀r∈l,r.key.size<=maxLen/\r.value.size<=maxLen)(i:cC c a b l=false):ba prog 40 #[.agg #[ao c,Z U a,Z U b,J f l.length d]] w λe o=>e=ay (bt #[O ⟨#[]⟩,Z U 6])/\aa n_ w o:=by have m:=aa.alloc n_ w (I #[ao c,Z U a,Z U b,J f l.length d] 28);have g:=E (zG c a b f d l _ (j.ai m) k);rw[i]at g;clear j k i m;go_enter func40,ntmps40;go_wp2_with fail;refine g.o.mono ?_;rintro e p ⟨rfl,n⟩;clear g;go_wp2;go_ret2;exact⟨rfl,((aa.refl _ w).al _).tr n i_⟩
theorem lF(c:Bool)(a b:Nat)(o:Option Addr)(d:Nat)(l:List an)(w:ab)(v:cG w o l)(G:cC c a b l=true):ba prog 40 #[.agg #[ao c,Z U (a:Nat),Z U (b:Nat),J o l.length d]] w λe w'=>e=ay (bt #[O (aU (cB ⟨c,a,b,l.map an.bS⟩)),Z U 0])/\aa n_ w w':=by
 obtain⟨ha,hb,y,j⟩:=dD G;have T:=aa.alloc n_ w (I #[ao c,Z U (a:Nat),Z U (b:Nat),J o l.length d] 28);have A:=E (zG c a b o d l _ (v.ai T) (λr v=>by have:=j r v;unfold maxLen;omega));rw[G]at A;have N:=E (az w (I #[ao c,Z U (a:Nat),Z U (b:Nat),J o l.length d] 28));have M:=E (λW (hW:aa n_ w W)=>my c a b o d l W (v.ai hW) y j (by omega) (by omega));have s:=E (og (full:=c) (a:=a) (b:=b) (by omega) (by omega) y j);have u:=qX c a b y;have m:=E (wV c a b l);obtain⟨R,P⟩:∃R,R=aU (cB ⟨c,a,b,l.map an.bS⟩):=⟨_,rfl⟩
 rw[<-P]at m⊢;clear P v G ha hb y j T;generalize bI c a b l=L at*;have D:QS (∀k,k<=L.length->(iq (L.take k)).size<=3000000):=λk x=>by
  have h1:=ir (l:=L) 10000 s.o k
  have:k*10000<=300*10000:=xw _ (by omega)
  omega
 have a0:(L.length:Int)<=300:=by omega
 have B:QS (1<=L.length):=u.2;clear u;go_enter func40,ntmps40;go_wp2_with fail;refine A.o.mono ?_;rintro e w1 ⟨rfl,H⟩;have f:=(H.block _ (lg N.o) id).trans N.o;have x0:=ae f 0;have x1:=ae f 1;have x2:=ae f 2;have x3:=ae f 3;simp at x0 x1 x2 x3;have p:=E (((aa.refl n_ w).al _).tr H i_);clear A H f;go_wp2_with fail;refine(M.o _ p.o).mono ?_;rintro e w2 ⟨v2,rfl,F⟩;obtain⟨o2,c2,rfl,-,sa⟩:=F.row.form;obtain⟨g2,rfl⟩:=sa (by have:=B.o;omega);have K:=E F;clear F x0 x1 x2 x3 M;go_wp2_with fail;go_loopw [6,7] (λsv i wr=>∃k:Nat,k<=L.length/\sv=O (iq (L.take k))/\i=Z U k/\aa n_ w2 wr) (λ_ i _=>L.length-(intOf i).toNat)
 case atStart=>exact⟨0,eL _,rfl,rfl,aa.refl _ _⟩
 case round=>
  obtain⟨k,x,rfl,rfl,kr⟩:=hrel;have n:=E kr;have a1:(k:Int)<=L.length:=by omega
  clear kr;by_cases g:k<L.length
  ·obtain⟨t,z⟩:∃t,L[k]?=V t:=⟨L[k],ec g⟩
   have c0:=Bh K.o.row n.o z;have s1:=D.o k x;have s2:=s.o t (hH z);have C:=E (qe z);have S:(k:Int)<L.length:=by omega
   generalize iq (L.take k)=ct at*;have Q:∀W,(Op.stringOp .add ct t).run prog W=.ok (O (ct++t)) W:=λW=>run_string_add_sum W _ _ (by omega);have q:=E g;clear z s1 s2 g x;go_wp2;exact⟨⟨k+1,q.o,by rw[C.o],by go_num,n.o⟩,by simp only[intOf];have:=q.o;omega⟩
  ·have a2:¬((k:Int)<L.length):=by omega
   have e:L.take k=L:=ep (by omega);rw[e,m.o];clear e g x;go_wp2;go_ret2;exact⟨rfl,(p.o.tr K.o.keep i_).tr n.o i_⟩
def kK(w:ab)(d:Nat)(a:ByteArray)(b:Nat)(c:Int):Prop:=w.heap[d]?=V (I #[O a,Z U (b:Nat),Z U c] 170 (0,0))
def KV(w:ab)(b:Nat)(a:ByteArray)(l:List UInt8):Prop:=Place a l/\kK w b a (a.size-l.length) (-1)
def vG(w:ab)(c:Nat)(a:ByteArray)(p:Nat):Prop:=∃b,b<=a.size/\kK w c a b (p:Nat)
theorem kK.facts{b:Nat}{d:Int}(h:kK w b a c d):w.cell? ⟨b,0,Y⟩=V (O a)/\w.cell? ⟨b,1,Y⟩=V (Z U (c:Nat))/\w.cell? ⟨b,2,Y⟩=V (Z U d)/\w.frozen? ⟨b,1,Y⟩=false/\w.frozen? ⟨b,2,Y⟩=false:=
 ⟨ae h 0,ae h 1,ae h 2,aj h 1,aj h 2⟩
theorem kK.ai{S:Nat->Prop}{b:Nat}{c:Int}(h:kK w d a b c)(g:aa S w e)(f:¬S d):kK e d a b c:=(g.block d (lg h) f).trans h
theorem kK.QB{b:Nat}{c:Int}(h:kK w d a b c)(p:Nat):kK (w.setCell ⟨d,2,Y⟩ (Z U (p:Nat))) d a b (p:Nat):=by have:=ak (i:=2) h (Z U (p:Nat));unfold kK;simpa using this
theorem kK.OO{b:Int}(h:kK w d a c b)(p:Nat):kK (w.setCell ⟨d,1,Y⟩ (Z U (p:Nat))) d a p b:=by have:=ak (i:=1) h (Z U (p:Nat));unfold kK;simpa using this
theorem lL(c:Nat)(a:ByteArray)(b p:Nat)(w:ab)(h:kK w c a b (-1)):ba prog 104 #[X (V ⟨c,0,Y⟩),Z U (p:Nat)] w λe d=>e=ay (bt #[])/\kK d c a b (p:Nat)/\aa (·=c) w d:=by obtain⟨g,i,j,k,l⟩:=h.facts;have f:=E (h.QB p);clear h;go_enter func104,ntmps104;go_wp2;go_end0;exact⟨rfl,f.o,aa.setCell w ⟨c,2,Y⟩ _⟩
theorem KO(c:Nat)(a:ByteArray)(b q:Nat)(p:Int)(w:ab)(h:kK w c a b (q:Nat)):ba prog 104 #[X (V ⟨c,0,Y⟩),Z U p] w λe d=>e=ay (bt #[])/\d=w:=by
 obtain⟨f,g,i,j,k⟩:=h.facts;have l:¬((q:Int)<0):=by omega
 clear h;go_enter func104,ntmps104;go_wp2;go_end0;exact⟨rfl,rfl⟩
theorem FR(f:Nat)(a:ByteArray)(p:Nat)(n:Int)(w:ab)(h:vG w f a p):ba prog 101 #[X (V ⟨f,0,Y⟩),Z U n] w λe g=>e=ay (O ⟨#[]⟩)/\vG g f a p/\aa n_ w g:=by
 obtain⟨d,b,h⟩:=h;obtain⟨k,l,m,q,r⟩:=h.facts;have j:¬((p:Int)<0):=by omega
 have o:decide ((p:Int)<0)=false:=kg j;have i:=E h;have c:=E b;clear h b;go_enter func101,ntmps101;go_wp2_with fail;go_region;go_wp2;go_ret;exact⟨rfl,⟨d,c.o,i.o.ai (aa.refl n_ w).dr id⟩,(aa.refl n_ w).dr⟩
theorem FQ(f:Nat)(a:ByteArray)(l:List UInt8)(n:Nat)(w:ab)(h:KV w f a l)(o:a.size<=1000000000000)(B:n<=1000000000000):ba prog 101 #[X (V ⟨f,0,Y⟩),Z U (n:Nat)] w λe v=>(match ee n l with
 |.inr (x,r)=>e=ay (O (aU x))/\KV v f a r
 |.inl k=>e=ay (O ⟨#[]⟩)/\vG v f a (a.size-k))/\aa (·=f) w v:=by
 obtain⟨g,h⟩:=h;have m:=g.len;obtain⟨b,d⟩:∃b,b=a.size-l.length:=⟨_,rfl⟩
 rw[<-d]at h;obtain⟨H,K,L,M,N⟩:=h.facts;have z:(b:Int)<=a.size:=by omega
 have C:(a.size:Int)<=1000000000000:=by omega
 have T:(n:Int)<=1000000000000:=by omega
 have a0:IntKind.i64.wrap ((b:Int)+n)=(b:Int)+n:=IntWalk.i64_in _ ⟨by omega,by omega⟩;have HH:=E h;have HP:=E g;have G:=E d;by_cases p:n<=l.length
 ·have e:ee n l=.ok (l.take n) (l.drop n):=by unfold ee;rw[fy p]
  have S:¬((b:Int)+n>a.size):=by omega
  have A:(b:Int)+n<=a.size:=by omega
  have c:((b+n:Nat):Int)=(b:Int)+n:=Int.natCast_add ..;have q:kK (w.setCell ⟨f,1,Y⟩ (Z U ((b:Int)+n))) f a (b+n) (-1):=by have:=h.OO (b+n);rw[c]at this;exact this
  obtain⟨m0,m1,m2,-,-⟩:=q.facts;rw[c]at m1;have HM:=E q;have a1:IntKind.i64.wrap ((b:Int)+n-n)=(b:Int):=by rw[IntWalk.i64_in ((b:Int)+n-n) ⟨by omega,by omega⟩];omega
  have s:QS (a.extract b (b+n)=aU (l.take n)):=by show _=_;rw[iu,d,<-g]
  have j:QS (KV (w.setCell ⟨f,1,Y⟩ (Z U ((b:Int)+n))) f a (l.drop n)):=by refine⟨g.drop n,?_⟩;rw[mR,show a.size-(l.length-n)=b+n by omega];exact q
  rw[e];clear h g d p e m o B q c;go_enter func101,ntmps101;go_wp2_with fail;go_region;go_upto_region 6 with(fail)
  go_region;go_wp2;go_ret;refine⟨⟨?_,j.o.1,j.o.2.ai ((aa.refl n_ _).dr.dr) id⟩,?_⟩
  ·rw[<-s.o];rfl
  ·exact((aa.setCell w ⟨f,1,Y⟩ _).dr).dr
 ·have e:ee n l=.bad l.length:=by unfold ee;rw[el p]
  have R:(b:Int)+n>a.size:=by omega
  rw[e];have y:=E (λW (P:aa n_ w W)=>lL f a b b W (h.ai P id));have i:QS (a.size-l.length=b/\b<=a.size):=⟨d.symm,by omega⟩
  clear h g d p e m o B;go_enter func101,ntmps101;go_wp2_with fail;go_region;go_wp2_with fail;refine(y.o _ (aa.refl n_ w).dr).mono ?_;rintro e w1 ⟨rfl,u,D⟩;obtain⟨d0,d1,d2,-,-⟩:=u.facts;have Q:(b:Int)>=0:=by omega
  have F:=E u;have t:=E ((aa.drew (·=f) w).tr D i_);clear H K L M N u D y;go_wp2;go_ret;exact⟨⟨rfl,b,i.o.2,by rw[i.o.1];exact F.o⟩,t.o⟩
theorem Ke(d:Nat)(a:ByteArray)(p:Nat)(f i:Int)(w:ab)(h:vG w d a p):ba prog 102 #[X (V ⟨d,0,Y⟩),Z U f,Z U i] w λe j=>e=ay (Z U f)/\j=w:=by
 obtain⟨b,c,h⟩:=h;obtain⟨k,l,m,n,o⟩:=h.facts;have r:¬((p:Int)<0):=by omega
 have g:=E (λq=>KO d a b p q w h);clear h c;go_enter func102,ntmps102;go_wp2_with fail;refine wp_loop_rounds 1 ?_;rw[rounds_succ];go_wp2_with fail;refine(g.o _).mono ?_;rintro e s ⟨rfl,rfl⟩;go_wp2;go_ret;exact⟨rfl,rfl⟩
def OF(b:Nat)(a:ByteArray)(l:List UInt8)(d:Nat)(x:Rd Nat)(w:ab)(e:Ending)(c:ab):Prop:=(match x with
 |.inr (n,r)=>e=ay (Z U (n:Nat))/\KV c b a r
 |.inl _=>e=ay (Z U (d:Nat))/\vG c b a (a.size-l.length))/\aa (·=b) w c
theorem fL{f b q:Nat}{x:Rd Nat}(j:∃k,x=.bad k)(c:b=a.size-l.length)(i:q<=a.size)(h:kK e d a q (b:Nat))(g:aa (·=d) w e):OF d a l f x w (ay (Z U (f:Nat))) e:=by obtain⟨k,rfl⟩:=j;exact⟨⟨rfl,q,i,by rw[<-c];exact h⟩,g⟩
theorem tP(o:Nat)(a:ByteArray)(l:List UInt8)(K L:Nat)(w:ab)(h:KV w o a l)(d7:a.size<=1000000000000)(d3:L<=34359738367)(d5:K<=34359738367):ba prog 102 #[X (V ⟨o,0,Y⟩),Z U (K:Nat),Z U (L:Nat)] w (OF o a l K (dg K L l) w):=by
 obtain⟨hp,h⟩:=h;have d4:=hp.len;obtain⟨b,a7⟩:∃b,b=a.size-l.length:=⟨_,rfl⟩
 rw[<-a7]at h;have HH:=E h;have HP:=E hp;have s:=E a7;have M:QS (b+l.length=a.size):=by show _=_;omega
 have c5:QS (jt l 0 0):=⟨by omega,by omega,by simp,rfl⟩
 have e4:(a.size:Int)<=1000000000000:=by omega
 have d9:(L:Int)<=34359738367:=by omega
 have e1:(K:Int)<=34359738367:=by omega
 have B:QS (∀k,lY l=.bad k->∃j,dg K L l=.bad j):=λk e=>⟨k,by unfold dg;rw[e];rfl⟩;have a0:QS (∀n r,lY l=.ok n r->dg K L l=if K<=n/\n<=L then .ok n r else .bad l.length):=λn r e=>by unfold dg;rw[e];rfl
 generalize dg K L l=A at*;obtain⟨c0,c1,c2,f1,f2⟩:=h.facts;have d8:(b:Int)<=a.size:=by omega
 clear h hp a7 d4 d7 d3 d5 f1 f2;go_enter func102,ntmps102;go_wp2_with fail;go_loopw [8,9,10] (λz u i wr=>∃k f:Nat,i=Z U (k:Int)/\u=Z U ((128^k:Nat):Int)/\z=Z U (f:Int)/\jt l k f/\kK wr o a (b+k) (-1)/\aa (·=o) w wr) (λ_ _ i _=>5-(intOf i).toNat)
 case atStart=>exact⟨0,0,rfl,rfl,rfl,c5.o,HH.o,aa.refl _ _⟩
 case round=>
  obtain⟨k,f,rfl,rfl,rfl,hN,hs,hk⟩:=hrel;obtain⟨d0,d1,d2,g1,g2⟩:=hs.facts;have HS:=E hs;have C:=E hk;have HN:=E hN;have h5:=hN.Qf;have a8:=hN.len;clear hs hk hN c0 c1 c2;have HW:=E (λW (hW:aa n_ wr W)=>lL o a (b+k) b W (HS.o.ai hW id));by_cases t:k<5
  ·have e0:(k:Int)<5:=by omega
   by_cases b2:b+k=a.size
   ·have p:QS (∃j,A=.bad j):=B.o _ (HN.o.cut (by have:=M.o;omega));have e7:((b+k:Nat):Int)>=a.size:=by omega
    clear HN a0 B a8 h5;go_wp2_with fail;go_region;go_wp2_with fail;refine(HW.o _ (aa.refl n_ wr).dr).mono ?_;rintro e w1 ⟨rfl,c,q⟩;have x:=E c;have g:=E (C.o.tr ((aa.drew (·=o) wr).tr q i_) i_);clear c q HW;go_wp2;go_ret;exact fL p.o s.o (by omega) x.o g.o
   ·have b0:b+k<a.size:=by have:=M.o;omega
    have e2:¬((b:Int)+k>=a.size):=by omega
    have P:k<l.length:=by have:=M.o;omega
    have e8:∀W,(Instr.index 9 (O a) (Z U ((b:Int)+(k:Int)))).run prog W=.ok (Z .u8 (a[b+k].toNat:Nat)) W:=λW=>by
     rw[run_index_string W 9 a U _ Tryz.underlying9,dif_pos ⟨by omega,by omega⟩];have hn:((b:Int)+(k:Int)).toNat=b+k:=by omega
     simp only[hn]
    have a2:l[k].toNat=a[b+k].toNat:=by
     have c:l[k]?=(cH a b)[k]?:=by rw[s.o,<-HP.o]
     have T:k<(cH a b).length:=by rw[gh];omega
     rw[ec P,ec T]at c;rw[tv c,zH T b0]
    have hZ:=λc T=>HN.o.zero t P c T;have hL:=λc T=>HN.o.last t P c T;have hX:=λc=>HN.o.next t P c;rw[a2]at hZ hL hX;have hd:a[b+k].toNat<256:=TJ _;have b6:=HN.o.low;have b9:128^k<=268435456:=by
     have:128^k<=128^4:=Tt (by omega) (by omega)
     omega
    have c8:QS (128^(k+1)=128*128^k):=by show _=_;rw[Nat.pow_succ,TK]
    have N:((b+k+1:Nat):Int)=(b:Int)+k+1:=by omega
    have hm:kK (wr.setCell ⟨o,1,Y⟩ (Z U ((b:Int)+k+1))) o a (b+k+1) (-1):=by have:=HS.o.OO (b+k+1);rw[N]at this;exact this
    have a1:=E hm;have m:=E (λW (hW:aa n_ (wr.setCell ⟨o,1,Y⟩ (Z U ((b:Int)+k+1))) W)=>lL o a (b+k+1) b W (hm.ai hW id));have S:QS (b+k+1<=a.size):=b0;generalize a[b+k].toNat=d at*;generalize 128^k=u at*;obtain⟨v,Q⟩:∃v,v=u*(d%128):=⟨_,rfl⟩
    have d6:v<=268435456*127:=by rw[Q];exact Nat.mul_le_mul b9 (by omega)
    have b8:(u:Int)*((d:Int)%128)=(v:Int):=by rw[Q];exact(Int.natCast_mul u (d%128)).symm
    have e6:(d:Int)<256:=by omega
    have f0:(u:Int)<=268435456:=by omega
    have e3:(v:Int)<=34091302912:=by omega
    have c9:(f:Int)<=268435456:=by omega
    have D:QS (d<128->¬(d=0/\0<k)->A=if K<=f+v/\f+v<=L then .ok (f+v) (l.drop (k+1))else .bad l.length):=λc T=>by have:=a0.o _ _ (hL c T);rw[show f+d*u=f+v by rw[Q,Sc c,TK]]at this;exact this
    have G:QS (d=0->0<k->∃j,A=.bad j):=λc T=>B.o _ (hZ c T);have HX:QS (¬d<128->jt l (k+1) (f+v)):=λc=>by have:=hX c;rw[show f+(d-128)*u=f+v by rw[Q,show d%128=d-128 by omega,TK]]at this;exact this
    clear a2 hZ hL hX b6 b9 Q d6 hm N b0 P a0 B HN HW b2 h5 a8 hd;by_cases y:d<128
    ·have b1:(d:Int)<128:=by omega
     have b7:(d:Int)%128=d:=by omega
     rw[b7]at b8;by_cases h0:d=0/\0<k
     ·have p:=E (G.o h0.1 h0.2);have e9:(k:Int)>0:=by omega
      obtain⟨rfl,-⟩:=h0;clear HX D G y t;go_wp2_with fail;go_region;go_wp2_with fail;go_region;go_wp2_with fail;refine(m.o _ ((aa.refl n_ _).dr.dr)).mono ?_;rintro e w1 ⟨rfl,c,q⟩;have x:=E c;have g:=E ((C.o.tr (aa.setCell wr ⟨o,1,Y⟩ _) i_).tr (((aa.refl (·=o) _).dr.dr).tr q i_) i_);clear c q m;go_wp2;go_ret;exact fL p.o s.o S.o x.o g.o
     ·have F:=E (D.o y h0);have H:¬(((d:Int)=0)/\((k:Int)>0)):=by omega
      have a3:QS (d≠0\/k=0):=by show _\/_;omega
      by_cases a9:f+v<K
      ·have p:QS (∃j,A=.bad j):=⟨_,by rw[F.o,el (by omega)]⟩
       have b3:(f:Int)+v<K:=by omega
       clear HX D G y t h0 a9 F;rcases a3.o with R|R
       ·have c4:¬((d:Int)=0):=by omega
        have c3:((d:Int)==0)=false:=by rw[mK];omega
        clear R H;go_wp2_with fail;go_region;go_wp2_with fail;go_region;go_wp2_with fail;refine(m.o _ ((aa.refl n_ _).dr.dr)).mono ?_;rintro e w1 ⟨rfl,c,q⟩;have x:=E c;have g:=E ((C.o.tr (aa.setCell wr ⟨o,1,Y⟩ _) i_).tr (((aa.refl (·=o) _).dr.dr).tr q i_) i_);clear c q m;go_wp2;go_ret;exact fL p.o s.o S.o x.o g.o
       ·have dk:decide (0<k)=false:=kg (by omega);clear H R;cases hdz:((d:Int)==0)with
        |true=>
         go_wp2_with fail;go_region;go_wp2_with fail;go_region;go_wp2_with fail;refine(m.o _ ((aa.refl n_ _).dr.dr)).mono ?_;rintro e w1 ⟨rfl,c,q⟩;have x:=E c;have g:=E ((C.o.tr (aa.setCell wr ⟨o,1,Y⟩ _) i_).tr (((aa.refl (·=o) _).dr.dr).tr q i_) i_);clear c q m;go_wp2;go_ret;exact fL p.o s.o S.o x.o g.o
        |false=>
         go_wp2_with fail;go_region;go_wp2_with fail;go_region;go_wp2_with fail;refine(m.o _ ((aa.refl n_ _).dr.dr)).mono ?_;rintro e w1 ⟨rfl,c,q⟩;have x:=E c;have g:=E ((C.o.tr (aa.setCell wr ⟨o,1,Y⟩ _) i_).tr (((aa.refl (·=o) _).dr.dr).tr q i_) i_);clear c q m;go_wp2;go_ret;exact fL p.o s.o S.o x.o g.o
      ·have b3:¬((f:Int)+v<K):=by omega
       by_cases b4:f+v>L
       ·have p:QS (∃j,A=.bad j):=⟨_,by rw[F.o,el (by omega)]⟩
        have b5:(f:Int)+v>L:=by omega
        clear HX D G y t h0 a9 b4 F;rcases a3.o with R|R
        ·have c4:¬((d:Int)=0):=by omega
         have c3:((d:Int)==0)=false:=by rw[mK];omega
         clear R H;go_wp2_with fail;go_region;go_wp2_with fail;go_region;go_wp2_with fail;refine(m.o _ ((aa.refl n_ _).dr.dr)).mono ?_;rintro e w1 ⟨rfl,c,q⟩;have x:=E c;have g:=E ((C.o.tr (aa.setCell wr ⟨o,1,Y⟩ _) i_).tr (((aa.refl (·=o) _).dr.dr).tr q i_) i_);clear c q m;go_wp2;go_ret;exact fL p.o s.o S.o x.o g.o
        ·have dk:decide (0<k)=false:=kg (by omega);clear H R;cases hdz:((d:Int)==0)with
         |true=>
          go_wp2_with fail;go_region;go_wp2_with fail;go_region;go_wp2_with fail;refine(m.o _ ((aa.refl n_ _).dr.dr)).mono ?_;rintro e w1 ⟨rfl,c,q⟩;have x:=E c;have g:=E ((C.o.tr (aa.setCell wr ⟨o,1,Y⟩ _) i_).tr (((aa.refl (·=o) _).dr.dr).tr q i_) i_);clear c q m;go_wp2;go_ret;exact fL p.o s.o S.o x.o g.o
         |false=>
          go_wp2_with fail;go_region;go_wp2_with fail;go_region;go_wp2_with fail;refine(m.o _ ((aa.refl n_ _).dr.dr)).mono ?_;rintro e w1 ⟨rfl,c,q⟩;have x:=E c;have g:=E ((C.o.tr (aa.setCell wr ⟨o,1,Y⟩ _) i_).tr (((aa.refl (·=o) _).dr.dr).tr q i_) i_);clear c q m;go_wp2;go_ret;exact fL p.o s.o S.o x.o g.o
       ·have a6:QS (A=.ok (f+v) (l.drop (k+1))):=by show _=_;rw[F.o,fy (by omega)]
        have b5:¬((f:Int)+v>L):=by omega
        have a4:=E (HP.o.drop (k+1));have a5:QS (a.size-(l.drop (k+1)).length=b+k+1):=by show _=_;have h8:=M.o;have h9:=S.o;rw[mR];omega
        clear HX D G y t h0 a9 b4 F m;rcases a3.o with R|R
        ·have c4:¬((d:Int)=0):=by omega
         have c3:((d:Int)==0)=false:=by rw[mK];omega
         clear R H;go_wp2_with fail;go_region;go_wp2_with fail;go_region;go_wp2;go_ret;rw[a6.o];exact⟨⟨fV (by omega),a4.o,by rw[a5.o];exact a1.o.ai ((aa.refl n_ _).dr.dr) id⟩,(C.o.tr (aa.setCell wr ⟨o,1,Y⟩ _) i_).dr.dr⟩
        ·have dk:decide (0<k)=false:=kg (by omega);clear H R;cases hdz:((d:Int)==0)with
         |true=>
          go_wp2_with fail;go_region;go_wp2_with fail;go_region;go_wp2;go_ret;rw[a6.o];exact⟨⟨fV (by omega),a4.o,by rw[a5.o];exact a1.o.ai ((aa.refl n_ _).dr.dr) id⟩,(C.o.tr (aa.setCell wr ⟨o,1,Y⟩ _) i_).dr.dr⟩
         |false=>
          go_wp2_with fail;go_region;go_wp2_with fail;go_region;go_wp2;go_ret;rw[a6.o];exact⟨⟨fV (by omega),a4.o,by rw[a5.o];exact a1.o.ai ((aa.refl n_ _).dr.dr) id⟩,(C.o.tr (aa.setCell wr ⟨o,1,Y⟩ _) i_).dr.dr⟩
    ·have b1:¬((d:Int)<128):=by omega
     have c7:=E (HX.o y);have c6:=E t;clear HX D G m y;go_wp2_with fail;go_region;go_wp2_with fail;go_region;go_wp2;refine⟨⟨k+1,f+v,by go_num,by rw[c8.o];simp,by simp,c7.o,?_,(C.o.tr (aa.setCell wr ⟨o,1,Y⟩ _) i_).dr.dr⟩,by simp only[intOf];have:=c6.o;omega⟩;exact a1.o.ai ((aa.refl n_ _).dr.dr) id
  ·have e5:k=5:=by omega
   subst e5;have p:QS (∃j,A=.bad j):=B.o _ HN.o.full;have S:QS (b+5<=a.size):=by have:=M.o;show _<=_;omega
   clear HN a0 B a8 h5 t;go_wp2_with fail;refine(HW.o _ (aa.refl n_ wr)).mono ?_;rintro e w1 ⟨rfl,c,q⟩;have x:=E c;have g:=E (C.o.tr q i_);clear c q HW;go_wp2;go_ret;exact fL p.o s.o S.o x.o g.o
theorem pU(n o:Option Addr)(s t:Nat)(l:List an)(w:ab)(d:cG w n l)(f:cG w o l)(x:l.length<=1000000000):ba prog 41 #[J n l.length s,J o l.length t] w λe A=>e=ay (ao true)/\aa n_ w A:=by
 have q:=E d;have r:=E f;have y:(l.length:Int)<=1000000000:=by omega
 clear d f x;go_enter func41,ntmps41;go_wp2_with fail;go_loopw [5] (λi wr=>∃k:Nat,k<=l.length/\i=Z U k/\aa n_ w wr) (λi _=>l.length-(intOf i).toNat)
 case atStart=>exact⟨0,eL _,rfl,aa.refl _ _⟩
 case round=>
  obtain⟨k,h,rfl,m⟩:=hrel;have b:=E m;have u:(k:Int)<=l.length:=by omega
  clear m;by_cases a:k<l.length
  ·obtain⟨g,z,rfl,C,D,F⟩:=q.o.ai b.o k a;obtain⟨B,p,rfl,G,H,K⟩:=r.o.ai b.o k a;have j:(k:Int)<l.length:=by omega
   generalize l[k].key=M at*;generalize l[k].value=N at*;generalize l[k].aO=L at*;have c:=E a;clear h a;go_wp2_with fail;go_region;go_wp2;exact⟨⟨k+1,c.o,by go_num,b.o.dr⟩,by simp only[intOf];have:=c.o;omega⟩
  ·have v:¬((k:Int)<l.length):=by omega
   clear h a;go_wp2;go_ret;exact⟨rfl,b.o⟩
end
theorem uZ(l:List UInt8):dg 0 34359738367 l=lY l:=by
 unfold dg;rcases h:lY l with k|⟨n,r⟩
 ·rfl
 ·have:=(PE h).1;rw[Rd.bT,fy ⟨eL _,by omega⟩]
theorem GI(n:Nat)(l:List UInt8):dg n n l=(lY l).bind λm r=>if m=n then .ok m r else .bad l.length:=by
 unfold dg;rcases h:lY l with k|⟨m,r⟩
 ·rfl
 ·rw[Rd.bT,Rd.bT];by_cases e:m=n
  ·rw[fy e,fy (by omega)]
  ·rw[el e,el (by omega)]
section
attribute [local go_sem] Oper.semAt_some
theorem sC(d:Nat)(a:ByteArray)(l:List UInt8)(w:ab)(h:KV w d a l)(b:a.size<=1000000000000)(m:∀n r,dg 0 4 l=.ok n r->n=0):ba prog 103 #[X (V ⟨d,0,Y⟩)] w λe o=>e=ay (J Y 0 0)/\(match dg 0 4 l with
 |.inr (_,r)=>KV o d a r
 |.inl _=>vG o d a (a.size-l.length))/\aa (·=d) w o:=by
 have c:=E (tP d a l 0 4 w h b (by omega) (by omega));obtain⟨p,q,s,t,u⟩:=h.2.facts;rcases hx:dg 0 4 l with k|⟨n,r⟩
 ·rw[hx]at c;clear h b m hx;go_enter func103,ntmps103;go_wp2_with fail;refine c.o.mono ?_;rintro e v ⟨⟨rfl,f⟩,g⟩;have i:=E f;have j:=E g;clear f g c p q s t u;go_wp2;go_ret;exact⟨rfl,i.o,j.o⟩
 ·obtain rfl:=m n r hx;rw[hx]at c;clear h b m hx;go_enter func103,ntmps103;go_wp2_with fail;refine c.o.mono ?_;rintro e v ⟨⟨rfl,f⟩,g⟩;have i:=E f;have j:=E g;clear f g c p q s t u;go_wp2;go_ret;exact⟨rfl,i.o,j.o⟩
end
structure vD(n:Nat)(l1:List UInt8)(k:Nat)(ahead:ByteArray)(done:List Rec)(l':List UInt8):Prop where
 le:k<=n
 len:done.length=k
 key:ahead.size<=10
 short:l'.length<=l1.length
 same:fC n [] l1=(fC (n-k) ahead.data.toList l').bind λx l2=>.ok (done++x) l2
theorem vD.zero(n:Nat)(a:List UInt8):vD n a 0 ⟨#[]⟩ [] a:=by refine⟨eL _,rfl,eL _,eb _,?_⟩;show fC n [] a=(fC n [] a).bind λx b=>.ok ([]++x) b;cases fC n [] a<;>rfl
theorem vD.bad{c:List UInt8}(h:vD n c k a done b)(e:k<n){left:Nat}(d:kR a.data.toList b=.bad left):fC n [] c=.bad left:=by rw[h.same,show n-k=n-(k+1)+1 by omega,fC,d];rfl
theorem vD.Nz{c:List UInt8}(h:vD n c n a done b):fC n [] c=.ok done b:=by rw[h.same,RZ,fC];simp[Rd.bind]
theorem vD.next{d:List UInt8}{c:List UInt8}{r:Rec}(h:vD n d k a done c)(e:k<n)(g:kR a.data.toList c=.ok r b)(f:r.key.length<=10)(i:b.length<c.length):vD n d (k+1) (aU r.key) (done++[r]) b:=by
 refine⟨e,by rw[hQ,Ro,h.len],by rw[bn];exact f,by have:=h.short;omega,?_⟩;rw[h.same,show n-k=n-(k+1)+1 by omega,fC,g,Rd.bT,iK];rcases fC (n-(k+1)) r.key b with q|⟨x,j⟩
 ·rfl
 ·simp[Rd.bind]
theorem JU{a:List UInt8}(h:dg 0 a.length l=.bad j):kR a l=.bad j:=by unfold kR;rw[h];rfl
theorem JV{a:List UInt8}(h:dg 0 a.length l=.ok c b)(d:dg (1-c) (10-c) b=.bad j):kR a l=.bad j:=by unfold kR;rw[h,Rd.bT,d];rfl
theorem JW{a d:List UInt8}(h:dg 0 a.length l=.ok c b)(e:dg (1-c) (10-c) b=.ok m d)(f:ee m d=.bad j):kR a l=.bad j:=by unfold kR;rw[h,Rd.bT,e,Rd.bT,f];rfl
theorem JX{a d e:List UInt8}(h:dg 0 a.length l=.ok c b)(f:dg (1-c) (10-c) b=.ok m d)(g:ee m d=.ok x e)(i:dg 0 41 e=.bad j):kR a l=.bad j:=by unfold kR;rw[h,Rd.bT,f,Rd.bT,g,Rd.bT,i];rfl
theorem ML{a d e f:List UInt8}{s:Nat}(h:dg 0 a.length l=.ok c b)(g:dg (1-c) (10-c) b=.ok m d)(i:ee m d=.ok x e)(j:dg 0 41 e=.ok s f):kR a l=xP (a.take c++x) s f:=by unfold kR;rw[h,Rd.bT,g,Rd.bT,i,Rd.bT,j,Rd.bT]
theorem Row.Jz{z:ab}{e:cI}{u:ax}{l:List ax}{c:Nat->ax}{f a:Array ax}(h:Row w e d u k l)(S:∀j y,l[j]?=V y->y=c j)(M:w.heap[g]?=V (I f e (0,0)))(s:z.heap[g]?=V (I a e (0,0)))(R:a.size=f.size)(L:∀(j:Nat) v,a[j]?=V v->f[j]?=V v\/v=c j)(Q:∀j,j≠g->z.heap[j]?=w.heap[j]?):Row z e d u k l:=by
 refine⟨h.1,?_⟩;rcases h.2 with K|⟨b,m,H,rfl,o,q,B,r,C⟩
 ·exact .inl K
 ·by_cases A:b=g
  ·subst A;rw[M]at o;simp only[vv,Obj.cells.injEq]at o;obtain⟨rfl,-⟩:=o;refine .inr ⟨b,m,a,rfl,s,q,B,by rw[R];exact r,?_⟩;have F:=h.1;have P:k*d<=f.size:=mA (xw _ q) r;apply Tn;intro j;by_cases D:j<k*d
   ·rw[SC D];have N:j<f.toList.length:=by simp;omega
    have x:l[j]?=f.toList[j]?:=by rw[<-C,SC D]
    have n:j<l.length:=by omega
    have i:l[j]?=V (c j):=by rw[ec n,<-S j _ (ec n)]
    have t:j<a.size:=by omega
    have G:a[j]?=V a[j]:=Array.getElem?_eq_getElem t;rw[i,RW,G];rcases L j _ G with p|p
    ·rw[x,RW,p]at i;exact i
    ·rw[p]
   ·rw[Sv (by simp;omega),Sv (by omega)]
  ·exact .inr ⟨b,m,H,rfl,by rw[Q b A];exact o,q,B,r,C⟩
theorem uQ(w:ab)(t ty e:cI)(i:TypeInfo)(z:ax)(d C:Nat)(ht:P.underlying t=V (.slice e))(hi:P.info? e=V i)(hz:i.zero=V z)(S:i.size=d)(a3:i.bytes=C)(a8:z.cells.size=d)(v:ax)(n:Nat)(H:List ax)(f:Row w e d v n H)(a:Addr)(m c:Nat)(b:List ax)(N:b.length=m*d)(p:∀j u,b[j]?=V u->w.cell? (a.add j)=V u)(h1:∀u∈b,u.oneCell'=true)(W:n+m<=maxLen)(r:(n+m)*C<=140737488355328)(x:Nat->ax)(hx:∀j u,b[j]?=V u->u=x (n*d+j)):∃v' w',(Builtin.append_ #[t,t] ty #[v,J (V a) m c]).run P w=.ok v' w'/\Row w' e d v' (n+m) (H++b)/\w.grownBy w' v.ownBlock/\(v'=J Y 0 0↔v=J Y 0 0/\m=0)/\(v'.ownBlock=v.ownBlock\/v'.ownBlock=V w.heap.size)/\∀u k K,Row w e d u k K->(∀j y,K[j]?=V y->y=x j)->Row w' e d u k K:=by
 subst S;subst a3;have a2:n+m<=9223372036854775807:=by simp only[maxLen]at W;omega
 have s:(H++b).length=(n+m)*i.size:=by rw[hQ,f.1,N,Sq]
 have D:∀(l:Nat),l<n+m->∀(a1:Option Nat),Row (w.drew.alloc (I (H.toArray++b.toArray++Builtin.zeroCells z.cells (grownCap w (n+m) l e-(n+m))) e)) e i.size (J (V ⟨w.heap.size,0,Y⟩) (n+m) (grownCap w (n+m) l e)) (n+m) (H++b)/\w.grownBy (w.drew.alloc (I (H.toArray++b.toArray++Builtin.zeroCells z.cells (grownCap w (n+m) l e-(n+m))) e)) a1:=by
  intro l ho a1;have a5:=grownCap_ge w (n+m) l e;have M:grownCap w (n+m) l e<=maxLen:=grownCap_le_maxLen w (n+m) l e W;refine⟨⟨s,.inr ⟨w.heap.size,_,_,rfl,Go.heap_alloc_new w.drew _,a5,M,?_,?_⟩⟩,⟨rfl,rfl,rfl,by simp,λk hk _=>Go.heap_alloc_old w.drew _ hk⟩⟩
  ·simp only[Array.size_append,vE,size_zeroCells,a8,f.1,N,<-Sq];apply xw;omega
  ·simp only[Tz,mE];rw[<-mE,<-s];exact List.take_left
 have L:∀(o:Obj) u k K,Row w e i.size u k K->(∀j y,K[j]?=V y->y=x j)->Row (w.drew.alloc o) e i.size u k K:=λo u k K R _=>
  R.ai ((aa.refl n_ w).dr.al o) k_
 rcases f.2 with⟨rfl,rfl⟩|⟨g,A,G,rfl,hg,a9,M,a4,T⟩
 ·have a7:H=[]:=hU (by simpa using f.1);subst a7;by_cases hm:m=0
  ·subst hm;have hn:b=[]:=hU (by simpa using N);subst hn;refine⟨J Y 0 0,w,?_,Row.nil w e i.size,⟨rfl,rfl,rfl,eb _,λ_ _ _=>rfl⟩,by simp,Or.inl rfl,λ_ _ _ h _=>h⟩;simp[Builtin.append_,run_underlying ht,sizeOf,typeInfo,hi,Builtin.lenOf,Builtin.firstCells,loadCells,loadCellsFrom]
  ·have R:=run_append_nil (P:=P) w t ty e i z ht hi hz a m c b N p (by omega) (by omega) (by have hb:=r;simp only[tA]at hb;omega);have B:=D 0 (by omega) (Value.ownBlock (J Y 0 0));simp only[tA,uE,Array.empty_append]at B⊢;exact⟨_,_,R,B.1,B.2,by simp[hm],Or.inr rfl,L _⟩
 ·by_cases q:n+m<=A
  ·have a0:n*i.size+b.length<=G.size:=by rw[N,<-Sq];exact mA (xw _ q) a4
   have R:=run_append_room (P:=P) w t ty e i ht hi g n A G hg a m c b N p h1 q a0;refine⟨_,_,R,⟨s,.inr ⟨g,A,_,rfl,setRow_heap w g G _ e _ hg,q,M,?_,?_⟩⟩,⟨rfl,rfl,rfl,by simp,λk _ hk=>setRow_other w g k _ (λe=>hk (by simp[Value.ownBlock,e]))⟩,by simp,Or.inl rfl,λu k K hu hy=>?_⟩
   ·simp only[vE,hQ,js,mR,RA];omega
   ·rw[T,<-s];exact List.take_left
   ·refine Row.Jz hu hy hg (setRow_heap w g G _ e _ hg) ?_ ?_ (λj hj=>setRow_other w g j _ hj)
    ·simp only[vE,hQ,js,mR,RA];omega
    ·intro j v F;simp only[List.getElem?_toArray]at F;rw[List.getElem?_append,List.getElem?_append]at F;split at F
     ·split at F
      ·rename_i h2 h3;left;simp only[js,RA]at h3;rw[SC (by omega),RW]at F;exact F
      ·rename_i h2 h3;right;simp only[js,RA]at h3 F;have:=hx _ v F;rw[this];congr 1;omega
     ·rename_i h2;left;simp only[hQ,js,RA]at h2 F;rw[Sa,RW]at F;rw[<-F];congr 1;omega
  ·have Q:∀j u,H[j]?=V u->w.cell? ((⟨g,0,Y⟩:Addr).add j)=V u:=by
    intro j u hj;have a6:j<n*i.size:=by have:=(ej.1 hj).1;rw[f.1]at this;exact this
    have:=f.cellAt j a6;rw[Addr.add_lit,tA,this,hj]
   have R:=run_append_grow (P:=P) w t ty e i z ht hi hz ⟨g,0,Y⟩ n A H f.1 Q a m c b N p (by omega) (by omega) (growslice_fits (by omega) r);have B:=D A (by omega) (Value.ownBlock (J (V ⟨g,0,Y⟩) n A));exact⟨_,_,R,B.1,B.2,by simp,Or.inr rfl,L _⟩
theorem eB(w:ab){C:Array Oper}{rest:List Oper}{o:Oper}{a:Act}{Q:Exit->Act->ab->Prop}(H:o.guard=Y)(s x:Operand)(t:cI)(ho:o.op=.call {callee:=.builtin .append,args:=#[s,x],argTypes:=#[t,t]})(e:cI)(i:TypeInfo)(z:ax)(b f:Nat)(ht:P.underlying t=V (.slice e))(hi:P.info? e=V i)(hz:i.zero=V z)(p:i.size=b)(G:i.bytes=f)(L:z.cells.size=b)(v:ax)(n:Nat)(M:List ax)(hs:a.eval s=v)(B:Row w e b v n M)(D:Addr)(m c:Nat)(d:List ax)(hx:a.eval x=J (V D) m c)(hl:d.length=m*b)(l:∀j u,d[j]?=V u->w.cell? (D.add j)=V u)(N:∀u∈d,u.oneCell'=true)(F:n+m<=maxLen)(g:(n+m)*f<=140737488355328)(y:Nat->ax)(hy:∀j u,d[j]?=V u->u=y (n*b+j))(h:∀r A,Row A e b r (n+m) (M++d)->w.grownBy A v.ownBlock->(r.ownBlock=v.ownBlock\/r.ownBlock=V w.heap.size)->(∀u k ys,Row w e b u k ys->(∀j q,ys[j]?=V q->q=y j)->Row A e b u k ys)->wpList P C Q rest (a.put o.dst r) A):wpList P C Q (o::rest) a w:=by refine wpList_plain H λK hK=>?_;obtain⟨r,A,hr,R,S,h4,T,W⟩:=uQ (P:=P) w t o.type e i z b f ht hi hz p G L v n M B D m c d hl l N F g y hy;unfold Oper.wp execOp;simp only[ho,resolve,invoke,builtin,Sem.run_bind,Sem.run_pure,Result.andThen_ok,List.map_toArray,mU,RY,hs,hx,hr];exact hK _ _ (h r A R S T W)
theorem Row.FX{e:cI}{a b:Nat}{j:List ax}(h:Row w e a (J (V ⟨g,0,Y⟩) n b) n j)(i:Nat)(u:ax):Row (w.setCell ⟨g,i,Y⟩ u) e a (J (V ⟨g,0,Y⟩) n b) n (j.set i u):=by
 refine⟨by simpa using h.1,?_⟩;rcases h.2 with⟨k,_⟩|⟨r,d,c,f,q,l,m,o,p⟩
 ·simp at k
 ·simp at f;obtain⟨rfl,rfl⟩:=f;refine .inr ⟨g,b,c.setIfInBounds i u,rfl,ak q u,l,m,by simpa using o,?_⟩;rw[<-p];simp[List.take_set]
end Go.Proofs.YtjbkfdeldlajhaaGreatDoor
namespace Go.Proofs.YtjbkfdeldlajhaaGreatDoor
open Go.RowKit Go.Shelf Go.Proofs.Tryz
open Option renaming none->Y,some->V
open Go.Value renaming int->Z,string->O,slice->J,bool->ao
open Go.IntKind renaming i64->U
open Go.Obj renaming cells->I
open Go renaming World->ab,Value->ax
def jm(m:ByteArray)(_:Nat):ax:=O m
def ix(m:ByteArray)(j:Nat):ax:=if j%3=2 then ao true else O m
def full(b:Nat)(a:ByteArray->Nat->ax)(m:ByteArray)(n:Nat):List ax:=(List.range (n*b)).map (a m)
def mix(b:Nat)(a:ByteArray->Nat->ax)(m:ByteArray)(c:List ax)(i:Nat):List ax:=full b a m i++c.drop (i*b)
theorem nn(m:ByteArray)(n j:Nat):jm m (n*2+j)=jm m j:=rfl
theorem nt(m:ByteArray)(n j:Nat):ix m (n*3+j)=ix m j:=by unfold ix;rw[show(n*3+j)%3=j%3 by omega]
section
variable{sz:Nat} {pat:ByteArray->Nat->ax} {m:ByteArray} {n k i j:Nat} {xs:List ax}
theorem ia:(full sz pat m n).length=n*sz:=by simp[full]
theorem gZ(h:j<n*sz):(full sz pat m n)[j]?=V (pat m j):=by simp[full,h]
theorem fk:∀j y,(full sz pat m n)[j]?=V y->y=pat m j:=by
 intro j y h;have a:j<n*sz:=by have:=(ej.1 h).1;rwa[ia]at this
 rw[gZ a]at h;exact(tv h).symm
theorem mS(b:∀n j,pat m (n*sz+j)=pat m j):full sz pat m n++full sz pat m k=full sz pat m (n+k):=by
 apply Tn;intro j;have e:(n+k)*sz=n*sz+k*sz:=Sq ..;by_cases h:j<n*sz
 ·rw[Rb (by rw[ia];exact h),gZ h,gZ (by omega)]
 ·rw[Rl (by rw[ia];omega),ia];by_cases a:j<(n+k)*sz
  ·rw[gZ (by omega),gZ a,<-b n,show n*sz+(j-n*sz)=j by omega]
  ·rw[Sv (by rw[ia];omega),Sv (by rw[ia];omega)]
theorem mT(a:∀n j,pat m (n*sz+j)=pat m j):∀j u,(full sz pat m k)[j]?=V u->u=pat m (n*sz+j):=λj u h=>by rw[a];exact fk j u h
theorem CG:mix sz pat m xs 0=xs:=by simp[mix,full]
theorem CF(h:xs.length=n*sz):mix sz pat m xs n=full sz pat m n:=by unfold mix;rw[List.drop_of_length_le (by omega),Kp]
theorem vj:(mix sz pat m xs i)[j]?=if j<i*sz then V (pat m j)else xs[j]?:=by
 unfold mix;split
 ·rw[Rb (by rw[ia];assumption),gZ (by assumption)]
 ·rw[Rl (by rw[ia];omega),ia,Sa];congr 1;omega
end
theorem JF(m:ByteArray){a:List ax}{n i:Nat}(h:a.length=n*2)(c:i<n):((mix 2 jm m a i).set (i*2) (O m)).set (i*2+1) (O m)=mix 2 jm m a (i+1):=by
 have b:(mix 2 jm m a i).length=n*2:=by simp[mix,ia,h];omega
 apply Tn;intro j;rw[Ta,Ta,vj,vj];simp only[TG,b,jm];repeat' split
 all_goals first|rfl|omega
theorem JG(m:ByteArray){a:List ax}{n i:Nat}(h:a.length=n*3)(c:i<n):(((mix 3 ix m a i).set (i*3) (O m)).set (i*3+1) (O m)).set (i*3+2) (ao true)=mix 3 ix m a (i+1):=by
 have b:(mix 3 ix m a i).length=n*3:=by simp[mix,ia,h];omega
 apply Tn;intro j;rw[Ta,Ta,Ta,vj,vj];simp only[TG,b,ix];repeat' split
 all_goals first|rfl|omega
structure Part(tl te sz:Nat)(pat:ByteArray->Nat->ax)(K:Nat)(w:ab)(vp vm:ax)(Ls:List (ax×ByteArray)):Prop where
 lB:Row w tl 1 vp Ls.length (Ls.map λp=>p.1)
 marks:Row w 9 1 vm Ls.length (Ls.map λp=>O p.2)
 lists:∀p∈Ls,∃n,n<=100000000000/\Row w te sz p.1 n (full sz pat p.2 n)
 len:Ls.length<=4*K
def eZ(c b:ax)(a:List (ax×ByteArray)):List Nat:=c.ownBlock.toList++(b.ownBlock.toList++a.flatMap (λp=>p.1.ownBlock.toList))
theorem dy{c b:ax}{a:List (ax×ByteArray)}{k:Nat}:k∈eZ c b a↔c.ownBlock=V k\/b.ownBlock=V k\/∃p∈a,p.1.ownBlock=V k:=by simp only[eZ,cQ,ns,Rx]
def DZ(w:ab)(a:Nat):Prop:=∃b,w.heap[a]?=V (I b 47 (0,0))
section
variable{tl te sz:Nat} {pat:ByteArray->Nat->ax} {K:Nat} {w w':ab} {vp vm:ax} {Ls:List (ax×ByteArray)} {bb:Nat}
theorem Part.ai{S:Nat->Prop}(h:Part tl te sz pat K w vp vm Ls)(c:aa S w w')(b:∀k∈eZ vp vm Ls,¬S k):Part tl te sz pat K w' vp vm Ls:=by refine⟨h.lB.ai c (λg a=>b g (dy.2 (.inl a))),h.marks.ai c (λg a=>b g (dy.2 (.inr (.inl a)))),λp d=>?_,h.len⟩;obtain⟨n,e,f⟩:=h.lists p d;exact⟨n,e,f.ai c (λg a=>b g (dy.2 (.inr (.inr ⟨p,d,a⟩))))⟩
theorem Part.lt(h:Part tl te sz pat K w vp vm Ls):∀k∈eZ vp vm Ls,k<w.heap.size:=by
 intro k c;rcases dy.1 c with a|a|⟨p,d,a⟩
 ·exact h.lB.lt a
 ·exact h.marks.lt a
 ·obtain⟨n,_,b⟩:=h.lists p d;exact b.lt a
theorem Part.more{a:Nat}(h:Part tl te sz pat K w vp vm Ls)(b:K<=a):Part tl te sz pat a w vp vm Ls:=⟨h.lB,h.marks,h.lists,by have:=h.len;omega⟩
def yL(b a:Nat):Prop:=(b≠47/\a≠47)/\a≠b/\a≠9
theorem Part.not(h:Part tl te sz pat K w vp vm Ls)(c:yL tl te)(b:DZ w bb):bb∉eZ vp vm Ls:=λe=>by
 rcases dy.1 e with a|a|⟨p,f,a⟩
 ·exact(h.lB.aR a).ne c.1.1 b
 ·exact(h.marks.aR a).ne (by decide) b
 ·obtain⟨n,_,d⟩:=h.lists p f;exact(d.aR a).ne c.1.2 b
def vF(m l j:Nat)(d:ByteArray->Nat->ax)(mk:ax->ax->Array ax)(K g:Nat)(i h:ax)(f:List (ax×ByteArray))(v:ax)(w e:ab):Prop:=
 ∃b a c,e.heap[g]?=V (I (mk b a) 47 (0,0))/\Part m l j d (K+1) e b a c/\aa (λk=>k=g\/k∈eZ i h f\/v.ownBlock=V k) w e/\∀k∈eZ b a c,k∈eZ i h f\/v.ownBlock=V k\/w.heap.size<=k
theorem wT{mk:ax->ax->Array ax}{d c v t x y:ax}{m:ByteArray}{n:Nat}{f:ab}(r:yL tl te)(L:DZ w bb)(h:Part tl te sz pat K w vp vm Ls)(P:∀g,v.ownBlock=V g->g∉eZ vp vm Ls)(hn:n<=20000000000)(B:aa (λk=>k=bb\/v.ownBlock=V k) w f)(G:aa (λk=>k=bb\/vp.ownBlock=V k\/vm.ownBlock=V k) f w')(H:DZ f bb)(C:w'.heap[bb]?=V (I (mk d c) 47 (0,0)))(r0:Row f te sz v n (full sz pat m n))(r1:Row f te sz t (n+1) (full sz pat m (n+1)))(r2:Row f te sz x (n+2) (full sz pat m (n+2)))(r3:Row f te sz y (n+3) (full sz pat m (n+3)))(Q:∀g,t.ownBlock=V g->v.ownBlock=V g\/w.heap.size<=g)(R:∀g,x.ownBlock=V g->v.ownBlock=V g\/w.heap.size<=g)(S:∀g,y.ownBlock=V g->v.ownBlock=V g\/w.heap.size<=g)(rp:Row w' tl 1 d (Ls.length+4) ((Ls.map λp=>p.1)++[v,t,x,y]))(rm:Row w' 9 1 c (Ls.length+4) ((Ls.map λp=>O p.2)++[O m,O m,O m,O m]))(op:∀g,d.ownBlock=V g->vp.ownBlock=V g\/w.heap.size<=g)(W:∀g,c.ownBlock=V g->vm.ownBlock=V g\/w.heap.size<=g):vF tl te sz pat mk K bb vp vm Ls v w w':=by
 have N:=B.size;have A:=h.not r L;have z:Part tl te sz pat K f vp vm Ls:=h.ai B (λg i e=>by
  rcases e with rfl|e
  ·exact A i
  ·exact P g e i)
 have q:∀{u:ax} {k:Nat} {D:List ax},Row f te sz u k D->Row w' te sz u k D:=λ{u k D} s=>s.ai G (λg i e=>by
  rcases e with rfl|e|e
  ·exact(s.aR i).ne r.1.2 H
  ·exact(s.aR i).ne r.2.1 (z.lB.aR e)
  ·exact(s.aR i).ne r.2.2 (z.marks.aR e))
 have F:=h.len;refine⟨d,c,Ls++[(v,m),(t,m),(x,m),(y,m)],C,⟨by simpa using rp,by simpa using rm,λp a=>?_,by simp;omega⟩,?_,λk l=>?_⟩
 ·rcases cQ.1 a with a|a
  ·obtain⟨j,M,o⟩:=z.lists p a;exact⟨j,M,q o⟩
  ·simp only[cT,RQ,TP]at a;rcases a with rfl|rfl|rfl|rfl
   ·exact⟨n,by omega,q r0⟩
   ·exact⟨n+1,by omega,q r1⟩
   ·exact⟨n+2,by omega,q r2⟩
   ·exact⟨n+3,by omega,q r3⟩
 ·exact(B.mono (T:=λk=>k=bb\/k∈eZ vp vm Ls\/v.ownBlock=V k) (λk _ l=>l.imp id .inr)).tr G (λk l=>by
   rcases l with h|h|h
   ·exact .inl h
   ·exact .inr (.inl (dy.2 (.inl h)))
   ·exact .inr (.inl (dy.2 (.inr (.inl h)))))
 ·rcases dy.1 l with b|b|⟨p,a,b⟩
  ·exact(op k b).elim (λe=>.inl (dy.2 (.inl e))) (λe=>.inr (.inr e))
  ·exact(W k b).elim (λe=>.inl (dy.2 (.inr (.inl e)))) (λe=>.inr (.inr e))
  ·rcases cQ.1 a with a|a
   ·exact .inl (dy.2 (.inr (.inr ⟨p,a,b⟩)))
   ·simp only[cT,RQ,TP]at a;rcases a with rfl|rfl|rfl|rfl
    ·exact .inr (.inl b)
    ·exact .inr (Q k b)
    ·exact .inr (R k b)
    ·exact .inr (S k b)
end
abbrev OB:=Part 66 68 2 jm
abbrev OC:=Part 26 70 3 ix
theorem Md:yL 66 68:=by unfold yL;decide
theorem Me:yL 26 70:=by unfold yL;decide
structure zZ(K:Nat)(w:ab)(bb:Nat)(vp vm vr vn:ax)(nx:Int)(Ls Rs:List (ax×ByteArray)):Prop where
 top:w.heap[bb]?=V (I #[vp,vm,vr,vn,Z U nx] 47 (0,0))
 p:OB K w vp vm Ls
 r:OC K w vr vn Rs
 apart:∀k∈eZ vp vm Ls,k∉eZ vr vn Rs
 nx:0<=nx/\nx<=K
def oJ(K:Nat)(w:ab)(c:Nat)(G:List Nat):Prop:=∃f d g e h a b,zZ K w c f d g e h a b/\G=c::(eZ f d a++eZ g e b)
theorem zZ.ai{K:Nat}{w m:ab}{b:Nat}{i f j g:ax}{l:Int}{c d:List (ax×ByteArray)}{S:Nat->Prop}(h:zZ K w b i f j g l c d)(a:aa S w m)(e:∀k∈b::(eZ i f c++eZ j g d),¬S k):zZ K m b i f j g l c d:=
 ⟨(a.block _ (lg h.top) (e b (by simp))).trans h.top,h.p.ai a (λk a=>e k (by simp[a])),h.r.ai a (λk a=>e k (by simp[a])),h.apart,h.nx⟩
theorem oJ.ai{K:Nat}{w b:ab}{a:Nat}{G:List Nat}{S:Nat->Prop}(h:oJ K w a G)(f:aa S w b)(e:∀k∈G,¬S k):oJ K b a G:=by obtain⟨l,i,m,j,g,c,d,h,rfl⟩:=h;exact⟨l,i,m,j,g,c,d,h.ai f e,rfl⟩
theorem oJ.lt{K:Nat}{w:ab}{b:Nat}{G:List Nat}(h:oJ K w b G):∀k∈G,k<w.heap.size:=by
 obtain⟨i,f,j,g,e,c,d,h,rfl⟩:=h;intro k a;rcases cT.1 a with rfl|a
 ·exact (lg h.top)
 ·rcases cQ.1 a with a|a
  ·exact h.p.lt k a
  ·exact h.r.lt k a
theorem oJ.more{K a:Nat}{w:ab}{b:Nat}{G:List Nat}(h:oJ K w b G)(c:K<=a):oJ a w b G:=by obtain⟨j,g,k,i,f,d,e,h,rfl⟩:=h;exact⟨j,g,k,i,f,d,e,⟨h.top,h.p.more c,h.r.more c,h.apart,h.nx.1,by have:=h.nx.2;omega⟩,rfl⟩
theorem Mo{w:ab}{a:Nat}(h:w.heap[a]?=V (I #[J Y 0 0,J Y 0 0,J Y 0 0,J Y 0 0,Z U 0] 47 (0,0))):oJ 0 w a [a]:=
 ⟨_,_,_,_,_,[],[],⟨h,⟨Row.nil _ _ _,Row.nil _ _ _,λp b=>(by cases b),by simp⟩,⟨Row.nil _ _ _,Row.nil _ _ _,λp b=>(by cases b),by simp⟩,λk c=>by simp[eZ,Value.ownBlock]at c,by simp⟩,by simp[eZ,Value.ownBlock]⟩
def iX(K c:Nat)(G:List Nat)(w b:ab):Prop:=∃a,oJ K b c a/\aa (·∈G) w b/\∀k∈a,k∈G\/w.heap.size<=k
theorem iX.pre{K b:Nat}{G:List Nat}{d w c:ab}(a:aa n_ d w)(h:iX K b G w c):iX K b G d c:=by obtain⟨e,f,g,i⟩:=h;have:=a.size;exact⟨e,f,(a.mono (T:=(·∈G)) (λ_ _ h=>h.elim)).tr g i_,λk a=>(i k a).imp id (λh=>by omega)⟩
theorem Tryz.LZ:(prog.info? 26).map (λi=>(i.zero,i.size,i.bytes))=V (V (J Y 0 0),1,24):=by kernel_rfl
theorem Tryz.Jm:(prog.info? 66).map (λi=>(i.zero,i.size,i.bytes))=V (V (J Y 0 0),1,24):=by kernel_rfl
end Go.Proofs.YtjbkfdeldlajhaaGreatDoor
