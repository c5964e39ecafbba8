import Derived.Test.YtjbkfdeldlajhaaGreatDoorM43
set_option linter.unusedSimpArgs false
namespace Go.Proofs.YtjbkfdeldlajhaaGreatDoor
set_option maxRecDepth 100000
set_option maxHeartbeats 4000000
open Go.RowKit Go.Shelf Go.Proofs.Tryz
open Option renaming none->Y,some->V
open Go.Value renaming int->Z,slice->J,bool->ao
open Go.IntKind renaming i64->U
open Go.Obj renaming cells->I
open Go renaming World->ab,Value->ax,Calls->ba
section
attribute [local go_sem] Oper.semAt_some
theorem nz{w:ab}{g c:Nat}{b:List SV}(h:Row w 28 4 (J (V ⟨g,0,Y⟩) b.length c) b.length (b.flatMap SV.cells)){k:Nat}{p:SV}(d:b[k]?=V p):w.cell? ⟨g,k*4,Y⟩=V (ao p.s.full)/\w.cell? ⟨g,k*4+1,Y⟩=V (Z U (p.s.a:Nat))/\w.cell? ⟨g,k*4+2,Y⟩=V (Z U (p.s.b:Nat))/\w.cell? ⟨g,k*4+3,Y⟩=V (J p.o p.s.aW.length p.cp):=by obtain⟨a,rfl⟩:=ej.1 d;exact⟨Row.elem SV.len h k a 0 (by omega),Row.elem SV.len h k a 1 (by omega),Row.elem SV.len h k a 2 (by omega),Row.elem SV.len h k a 3 (by omega)⟩
theorem kq:∀(a L:List an),(a.foldl aS L).length<=L.length+a.length
 |[],L=>by simp
 |r::a,L=>by have b:=kq a (aS L r);have c:=wW L r;rw[yk,fN];omega
theorem AZ(oa:Option Addr)(j9:Nat)(l:List ByteArray)(w:ab)(hT:lh w oa l)(hn:l.length<=1100000)(hs:∀t∈l,t.size<=1000000000)(h6:l≠[]):ba prog 46 #[J oa l.length j9] w (qI l w):=by
 obtain⟨i1,k1,i4,i5,i6⟩:=info_parts Tryz.NZ;have d1:0<l.length:=Rq.2 h6;have l9:((l.length:Int)==0)=false:=by rw[mK];omega
 have HT:=E hT;have HS:=E hs;have HN:=E hn;have f6:=E d1;have l8:(l.length:Int)<=1100000:=by omega
 clear hT hs hn h6 d1;go_enter func46,ntmps46;go_wp2_with fail;go_loopw [4,5] (λv i wr=>∃(k:Nat) (o:List SV),i=Z U (k:Nat)/\Ib w l k v o wr) (λ_ i _=>l.length-(intOf i).toNat)
 case atStart=>exact⟨0,[],rfl,eL _,λt ht=>(by cases ht),Made.nil (aa.refl _ _),rfl,λp hp=>(by cases hp),λp hp=>(by cases hp)⟩
 case round=>
  obtain⟨k,o,rfl,c⟩:=hrel;have g8:(k:Int)<=l.length:=by have:=c.le;omega
  have f1:=c.len;obtain⟨ob,cb,rfl,-,sb⟩:=c.made.row.form;by_cases S:k<l.length
  ·obtain⟨g,m0,rfl,r0⟩:=(HT.o.ai c.made.keep) k S;have l2:(k:Int)<l.length:=by omega
   have l3:(o.length:Int)<=1100000:=by have:=HN.o;omega
   have g1:QS (o.length<=1100000):=by have:=HN.o;show _<=_;omega
   have F:=E (mw l[k] wr (HS.o _ (nE S)));have f5:=E (λv' W1 w' p=>c.next (v':=v') (W1:=W1) (w':=w') (p:=p) S);have a3:QS ((∀s,cA l[k].data.toList≠.ok s)->Bq l=(⟨#[]⟩,6)):=λh=>Hc S (CN h);have G:=E c.made.keep;have B:=E c.made.row;have HK:=E S;clear c f1 sb;generalize l[k]=i7 at*;clear S;rcases hx:cA i7.data.toList with _|p|s
   ·rw[hx]at F a3;go_wp2_with fail;refine F.o.mono ?_;rintro e w2 ⟨rfl,k2⟩;unfold eC;go_wp2;go_ret2;exact⟨by rw[a3.o (λs h=>by cases h)];rfl,(G.o.tr k2 i_).al _⟩
   ·rw[hx]at F a3;go_wp2_with fail;refine F.o.mono ?_;rintro e w2 ⟨rfl,k2⟩;unfold eC;go_wp2;go_ret2;exact⟨by rw[a3.o (λs h=>by cases h)];rfl,(G.o.tr k2 i_).al _⟩
   ·rw[hx]at F f5;clear a3 hx;go_wp2_with fail;refine F.o.mono ?_;rintro e w2 ⟨⟨o3,c3,rfl,d3,-⟩,k2⟩;have K2:=E k2;have j4:=E d3;have f9:=E (B.o.ai k2 k_);obtain⟨xs,k5⟩:∃xs,xs=#[ao s.full,Z U (s.a:Nat),Z U (s.b:Nat),J o3 s.aW.length c3]:=⟨_,rfl⟩
    clear d3 k2 F k5 xs;go_wp2_with(first|(at_builtin;go_must(refine aL _ rfl _ _ 179 rfl 28 i1 _ 4 48 Tryz.underlying179 k1 i4 i5 i6 rfl (J ob o.length cb) o.length _ rfl ((f9.o.ai (aa.alloc n_ _ _) k_).ai (aa.alloc n_ _ _) k_) ⟨w2.heap.size+1,0,Y⟩ 1 1 [ao s.full,Z U (s.a:Nat),Z U (s.b:Nat),J o3 s.aW.length c3] rfl rfl (AM _ #[ao s.full,Z U (s.a:Nat),Z U (s.b:Nat),J o3 s.aW.length c3] _ (by simp)) (by simp[Value.oneCell']) (by have:=g1.o;unfold maxLen;omega) (by have:=g1.o;omega) ?_;intro v' w4 H b1 _ c9;obtain⟨g',k6,rfl⟩:=H.succ;have j0:=E (f5.o _ _ _ ⟨s,o3,c3⟩ rfl (K2.o.tr ((aa.refl n_ w2).al _) i_|>.al _) H b1 c9 (j4.o.ai (((aa.refl n_ w2).al _).al _) k_));clear H b1 c9))|fail)
    exact⟨⟨k+1,_,by go_num,j0.o⟩,by simp only[intOf];have:=HK.o;omega⟩
  ·obtain⟨D,rfl⟩:∃D,D=wr:=⟨_,rfl⟩
   have h5:¬((k:Int)<l.length):=by omega
   have k3:k=l.length:=by have:=c.le;omega
   subst k3;have i2:l.take l.length=l:=ep (eb _);have M:=c.same;have b4:=c.PF;rw[i2]at M b4;have a2:QS (Bq l=ON (o.map SV.s)):=by show _=_;rw[M];unfold Bq;rw[fy b4]
   have g2:QS (∀s∈o.map SV.s,oG s):=λs hs=>by obtain⟨p,hp,rfl⟩:=fI.1 hs;exact c.strs p hp
   have d9:=E c.rows;have G:=E c.made.keep;have B:=E c.made.row;obtain⟨m,hm⟩:∃m,o.length=m+1:=⟨o.length-1,by have:=f6.o;omega⟩
   have l7:m<=1100000:=by have:=HN.o;omega
   obtain⟨gl,rfl⟩:=sb (by omega);obtain⟨d,b5⟩:∃p,o[0]?=V p:=⟨_,ec (by omega)⟩
   obtain⟨Q,e9⟩:∃p,o[m]?=V p:=⟨_,ec (by omega)⟩
   obtain⟨a0,a1,-,-⟩:=nz B.o b5;obtain⟨-,-,b2,-⟩:=nz B.o e9;simp at a0 a1;have ka:=aa.alloc n_ D (I #[ao false,Z U 0,Z U 0,J Y 0 0] 28);have j6:=ka.cell a0 id;have j7:=ka.cell a1 id;have j8:=ka.cell b2 id;have j2:=E b5;have j3:=E e9;have HM:=E hm;rw[hm];have l6:(m:Int)<=1100000:=by omega
   clear c M b4 i2 f1 sb S b5 e9 hm ka;go_wp2_with fail;go_region;go_wp2_with fail;have c7:QS (Ae D D.heap.size d.s.full d.s.a Q.s.b (J Y 0 0) [] (D.alloc (I #[ao d.s.full,Z U (d.s.a:Nat),Z U (Q.s.b:Nat),J Y 0 0] 28)).drew):=⟨az D _,Row.nil _ _ _,((aa.refl n_ D).al _).dr,eb _⟩
   generalize (D.alloc (I #[ao d.s.full,Z U (d.s.a:Nat),Z U (Q.s.b:Nat),J Y 0 0] 28)).drew=w1 at*;obtain⟨N,i3⟩:∃N,N=D.heap.size:=⟨_,rfl⟩
   rw[<-i3]at c7⊢;clear i3 a0 a1 b2 j6 j7 j8;have b3:(o.map SV.s).length=m+1:=by rw[hO,HM.o]
   have d6:=E b3;clear b3;go_loopw [10] (λi wr=>∃(j:Nat) (v:ax) (L:List an),j<=m+1/\i=Z U (j:Nat)/\Ae D N d.s.full d.s.a Q.s.b v L wr/\mJ (o.map SV.s) j d.s.full d.s.a L) (λi _=>m+1-(intOf i).toNat)
   case atStart=>exact⟨0,_,[],eL _,rfl,c7.o,mJ.zero _ _ _⟩
   case round=>
    obtain⟨j,v,L,hj,rfl,f,hS⟩:=hrel;obtain⟨wo,rfl⟩:∃wo,wo=wr:=⟨_,rfl⟩
    have l4:(j:Int)<=m+1:=by omega
    have e4:=hS.ok g2.o (by rw[d6.o];exact hj);have b7:=E e4;obtain⟨o2,c2,rfl,-,-⟩:=f.row.form;have A:=E f;have b8:=E hS;by_cases c0:j<m+1
    ·obtain⟨p,hp⟩:∃p,o[j]?=V p:=⟨_,ec (by rw[HM.o];exact c0)⟩
     have f0:(o.map SV.s)[j]?=V p.s:=by rw[vk,hp];rfl
     obtain⟨q0,q1,q2,q3⟩:=nz (B.o.ai f.keep k_) hp;have l1:(j:Int)<m+1:=by omega
     have HP:=E hp;have d8:=E f0;have j5:=E (g2.o p.s (by have:=hH f0;exact this))
     have f8:=E (d9.o p (hH hp));have R:=E c0;have e5:j=0\/(∃j' r,j=j'+1/\o[j']?=V r/\((p.s.full=false/\p.s.a=r.s.b)\/(p.s.full=true\/p.s.a≠r.s.b))):=by
      rcases Ry j with h0|h0
      ·exact .inl h0
      ·obtain⟨r,T⟩:∃r,o[j-1]?=V r:=⟨_,ec (by rw[HM.o];omega)⟩
       refine .inr ⟨j-1,r,by omega,T,?_⟩;by_cases h1:p.s.full=true
       ·exact .inr (.inl h1)
       ·by_cases h2:p.s.a=r.s.b
        ·exact .inl ⟨by simpa using h1,h2⟩
        ·exact .inr (.inr h2)
     clear f hS hj hp f0 c0 e4;obtain⟨a,c4⟩:∃a,a=p.s.aW.map bX:=⟨_,rfl⟩
     have c1:p.s.aW.length=a.length:=by rw[c4,hO]
     obtain⟨po,K⟩:∃po,po=p.o:=⟨_,rfl⟩
     obtain⟨pc,e8⟩:∃pc,pc=p.cp:=⟨_,rfl⟩
     have P:QS (fE D (J po a.length pc) a):=by have C:Row _ _ _ _ _ _:=f8.o;rw[c1,<-c4,<-K,<-e8]at C;exact C
     have a4:QS (∀W,aa n_ D W->W.cell? ⟨gl,j*4+3,Y⟩=V (J po a.length pc)):=λW hW=>by obtain⟨-,-,-,C⟩:=nz (B.o.ai hW k_) HP.o;rw[c1,<-K,<-e8]at C;exact C
     have d2:a.length<=1000:=by rw[<-c1];exact j5.o.1
     have c5:=E d2;have k4:(a.length:Int)<=1000:=by omega
     have f7:=E c4;clear c4 c1 K e8 d2 q3;rcases e5 with h0|⟨j',r,b9,T,b0|e7⟩;rotate_right
     ·have h7:(o.map SV.s)[j-1]?=V r.s:=by rw[b9,Rn,vk,T];rfl
      obtain⟨-,-,s2,-⟩:=nz (B.o.ai A.o.keep k_) T;have f4:=E (b8.o.not (by omega) d8.o h7 e7);have i0:(j:Int)-1=(j':Int):=by omega
      have g5:(j':Int)<=1100000:=by omega
      have g6:(j':Int)<m+1:=by omega
      have dj:decide ((j:Int)>0)=true:=mI (by omega);have dn:decide (0<j)=true:=mI (by omega);have j1:=E e7;clear h7 T b9 e7;by_cases b6:p.s.full=true
      ·rw[b6]at q0;clear b6;go_wp2_with fail;go_quiet(fail);go_wp2;go_ret2;exact⟨by rw[a2.o,f4.o];rfl,(G.o.tr A.o.keep i_).lU nq⟩
      ·have d0:p.s.full=false:=by simpa using b6
       have k0:p.s.a≠r.s.b:=j1.o.resolve_left b6;have k8:((p.s.a:Int)==(r.s.b:Int))=false:=by rw[mK];omega
       have k9:¬((p.s.a:Int)=(r.s.b:Int)):=by omega
       have l0:(p.s.a==r.s.b)=false:=by rw[mK];exact k0
       rw[d0]at q0;clear b6 d0;go_wp2_with fail;go_quiet(fail);go_wp2;go_ret2;exact⟨by rw[a2.o,f4.o];rfl,(G.o.tr A.o.keep i_).lU nq⟩
     ·have dj:decide ((j:Int)>0)=false:=kg (by omega);have dn:decide (0<j)=false:=kg (by omega);have a7:QS (mJ (o.map SV.s) (j+1) d.s.full d.s.a (a.foldl aS L)):=by
       have C:=b8.o.next d8.o (λ_=>by have h8:=HP.o;rw[h0,j2.o]at h8;cases h8;exact⟨rfl,rfl⟩) (λh=>by omega)
       rw[<-f7.o]at C;exact C
      clear h0;go_wp2_with fail;go_quiet(fail);go_wp2_with fail;have d7:QS (Ae D N d.s.full d.s.a Q.s.b (J o2 L.length c2) L (wo.drewN nq)):=⟨A.o.top,A.o.row.ai ((aa.refl n_ wo).lU nq) k_,A.o.keep.lU nq,A.o.Gz⟩
      generalize wo.drewN nq=w5 at*;go_loopw [11] (λkv wr=>∃(k:Nat) (v2:ax),k<=a.length/\kv=Z U (k:Nat)/\Ae D N d.s.full d.s.a Q.s.b v2 ((a.take k).foldl aS L) wr) (λkv _=>a.length-(intOf kv).toNat)
      case atStart=>exact⟨0,_,eL _,rfl,d7.o⟩
      case round=>
       obtain⟨k,v2,S,rfl,f⟩:=hrel;have g8:(k:Int)<=a.length:=by omega
       have q3:=a4.o wr f.keep;by_cases n:k<a.length
       ·obtain⟨op,cq,he,-,sp⟩:=P.o.form;have K:∃gp,po=V ⟨gp,0,Y⟩:=by injection he with e1 e2 e3;rw[e1];exact sp (by omega)
        obtain⟨gp,rfl⟩:=K;obtain⟨r0,r1,r2⟩:=jI (Row.ai P.o f.keep k_) k n;have a9:QS ((a.take (k+1)).foldl aS L=aS ((a.take k).foldl aS L) a[k]):=by show _=_;rw[eu n,Ri];rfl
        have e6:=kq (a.take k) L;have f2:(a.take k).length<=k:=by rw[js];omega
        obtain⟨y,hy⟩:∃y,y=a[k]:=⟨_,rfl⟩
        rw[<-hy]at r0 r1 r2 a9;obtain⟨o6,c6,rfl,-,-⟩:=f.row.form;have b:=E f;have a6:=E n;have z:((a.take k).foldl aS L).length<1000000000000:=by have h1:=b7.o.1;have h2:=R.o;have h3:m<=1100000:=(by omega);have h4:=c5.o;omega
        clear f he sp hy e6 f2;generalize (a.take k).foldl aS L=LL at*;have a8:=E (λW (hW:aa n_ wr W)=>lD (J o6 LL.length c6) LL y W (b.o.row.ai hW k_) z);unfold an.val at a8;have t3:=ae b.o.top 3;simp at t3;have g9:(k:Int)<a.length:=by omega
        have d4:QS (∀W,aa n_ wr W->W.cell? ⟨N,3,Y⟩=V (J o6 LL.length c6)/\W.frozen? ⟨N,3,Y⟩=false):=λW hW=>by have C:=(hW.block N (lg b.o.top) id).trans b.o.top;have h8:=ae C 3;simp at h8;exact⟨h8,aj C 3⟩
        clear n S z;go_wp2_with fail;go_region_with(go_at_call 74;go_must(refine(a8.o _ ((aa.refl n_ wr).dr)).mono ?_;rintro e w7 ⟨v',rfl,c⟩;obtain⟨ov,cv,rfl,-,-⟩:=c.row.form;have d5:=E c;have x:=E (((aa.refl n_ wr).dr).tr c.keep i_);obtain⟨z3,z4⟩:=d4.o _ x.o;clear c))
        all_goals
         go_wp2;exact⟨⟨k+1,_,a6.o,by go_num,by rw[a9.o];exact b.o.put x.o d5.o.row⟩,by simp only[intOf];have:=a6.o;omega⟩
       ·have h5:¬((k:Int)<a.length):=by omega
        have e:a.take k=a:=ep (by omega);rw[e]at f;have b:=E f;clear f e n S;go_wp2;exact⟨⟨j+1,_,_,R.o,by go_num,b.o,a7.o⟩,by simp only[intOf];have:=R.o;omega⟩
     ·obtain⟨-,-,s2,-⟩:=nz (B.o.ai A.o.keep k_) T;have i0:(j:Int)-1=(j':Int):=by omega
      have g5:(j':Int)<=1100000:=by omega
      have g6:(j':Int)<m+1:=by omega
      have dj:decide ((j:Int)>0)=true:=mI (by omega);have dn:decide (0<j)=true:=mI (by omega);have a7:QS (mJ (o.map SV.s) (j+1) d.s.full d.s.a (a.foldl aS L)):=by
       have C:=b8.o.next d8.o (λh=>by omega) (λ_=>⟨b0.1,λq hq=>by rw[b9,Rn,vk,T]at hq;cases hq;exact b0.2⟩)
       rw[<-f7.o]at C;exact C
      rw[b0.1]at q0;rw[b0.2]at q1;clear b9 T b0;go_wp2_with fail;go_quiet(fail);go_wp2_with fail;have d7:QS (Ae D N d.s.full d.s.a Q.s.b (J o2 L.length c2) L (wo.drewN nq)):=⟨A.o.top,A.o.row.ai ((aa.refl n_ wo).lU nq) k_,A.o.keep.lU nq,A.o.Gz⟩
      generalize wo.drewN nq=w5 at*;go_loopw [11] (λkv wr=>∃(k:Nat) (v2:ax),k<=a.length/\kv=Z U (k:Nat)/\Ae D N d.s.full d.s.a Q.s.b v2 ((a.take k).foldl aS L) wr) (λkv _=>a.length-(intOf kv).toNat)
      case atStart=>exact⟨0,_,eL _,rfl,d7.o⟩
      case round=>
       obtain⟨k,v2,S,rfl,f⟩:=hrel;have g8:(k:Int)<=a.length:=by omega
       have q3:=a4.o wr f.keep;by_cases n:k<a.length
       ·obtain⟨op,cq,he,-,sp⟩:=P.o.form;have K:∃gp,po=V ⟨gp,0,Y⟩:=by injection he with e1 e2 e3;rw[e1];exact sp (by omega)
        obtain⟨gp,rfl⟩:=K;obtain⟨r0,r1,r2⟩:=jI (Row.ai P.o f.keep k_) k n;have a9:QS ((a.take (k+1)).foldl aS L=aS ((a.take k).foldl aS L) a[k]):=by show _=_;rw[eu n,Ri];rfl
        have e6:=kq (a.take k) L;have f2:(a.take k).length<=k:=by rw[js];omega
        obtain⟨y,hy⟩:∃y,y=a[k]:=⟨_,rfl⟩
        rw[<-hy]at r0 r1 r2 a9;obtain⟨o6,c6,rfl,-,-⟩:=f.row.form;have b:=E f;have a6:=E n;have z:((a.take k).foldl aS L).length<1000000000000:=by have h1:=b7.o.1;have h2:=R.o;have h3:m<=1100000:=(by omega);have h4:=c5.o;omega
        clear f he sp hy e6 f2;generalize (a.take k).foldl aS L=LL at*;have a8:=E (λW (hW:aa n_ wr W)=>lD (J o6 LL.length c6) LL y W (b.o.row.ai hW k_) z);unfold an.val at a8;have t3:=ae b.o.top 3;simp at t3;have g9:(k:Int)<a.length:=by omega
        have d4:QS (∀W,aa n_ wr W->W.cell? ⟨N,3,Y⟩=V (J o6 LL.length c6)/\W.frozen? ⟨N,3,Y⟩=false):=λW hW=>by have C:=(hW.block N (lg b.o.top) id).trans b.o.top;have h8:=ae C 3;simp at h8;exact⟨h8,aj C 3⟩
        clear n S z;go_wp2_with fail;go_region_with(go_at_call 74;go_must(refine(a8.o _ ((aa.refl n_ wr).dr)).mono ?_;rintro e w7 ⟨v',rfl,c⟩;obtain⟨ov,cv,rfl,-,-⟩:=c.row.form;have d5:=E c;have x:=E (((aa.refl n_ wr).dr).tr c.keep i_);obtain⟨z3,z4⟩:=d4.o _ x.o;clear c))
        all_goals
         go_wp2;exact⟨⟨k+1,_,a6.o,by go_num,by rw[a9.o];exact b.o.put x.o d5.o.row⟩,by simp only[intOf];have:=a6.o;omega⟩
       ·have h5:¬((k:Int)<a.length):=by omega
        have e:a.take k=a:=ep (by omega);rw[e]at f;have b:=E f;clear f e n S;go_wp2;exact⟨⟨j+1,_,_,R.o,by go_num,b.o,a7.o⟩,by simp only[intOf];have:=R.o;omega⟩
    ·have l5:¬((j:Int)<m+1):=by omega
     have g7:j=m+1:=by omega
     have HR:QS (Bq l=rR d.s.full d.s.a Q.s.b (tF d.s.full L)):=by
      show _=_;rw[a2.o];refine mJ.all (s:=Q.s) ?_ ?_ rfl
      ·rw[d6.o,<-g7];exact b8.o
      ·rw[d6.o,Rn,vk,j3.o];rfl
     have t0:=ae f.top 0;have t1:=ae f.top 1;have t2:=ae f.top 2;have t3:=ae f.top 3;have f3:=aj f.top 3;simp at t0 t1 t2 t3;have z:L.length<1000000000000:=by have h1:=b7.o.1;omega
     have g3:QS (∀r∈L,r.key.size<=maxLen/\r.value.size<=maxLen):=λr T=>by have:=b7.o.2 r T;unfold maxLen;omega
     have i9:=E (G.o.tr f.keep i_);clear hS hj c0 g7 e4 f;by_cases hf:d.s.full=true
     ·rw[hf]at t0 HR A;have g0:=E (kS (J o2 L.length c2) L wo A.o.row z);have e0:QS (Bq l=rR true d.s.a Q.s.b (bc L)):=HR.o;clear hf HR z;go_wp2_with fail;refine g0.o.mono ?_;rintro e w6 ⟨v',rfl,c⟩;obtain⟨ov,cv,rfl,-,-⟩:=c.row.form;have b:=E (A.o.put (v':=J ov (bc L).length cv) (L':=bc L) c.keep c.row);have u:=(c.keep.block N (lg A.o.top) id).trans A.o.top;have y3:=ae u 3;have z3:=aj u 3;have y0:=ae u 0;have y1:=ae u 1;have y2:=ae u 2;simp at y0 y1 y2 y3;have c8:QS (∀r∈bc L,r.key.size<=maxLen/\r.value.size<=maxLen):=λr T=>g3.o r (kB.1 T).1;have a5:=E (qC true d.s.a Q.s.b ov cv (bc L) _ b.o.row c8.o);have i8:QS (aa n_ w (w6.setCell ⟨N,3,Y⟩ (J ov (bc L).length cv))):=G.o.tr b.o.keep i_;clear c g0 t0 t1 t2 t3 f3 u c8;generalize f1:(bc L).length=sl at*;go_wp2_with fail;refine a5.o.mono ?_;rintro e w7 ⟨rfl,k7⟩;have x:=E (i8.o.tr k7 i_);clear k7 a5;go_wp2;go_ret2;exact⟨by rw[e0.o];rfl,x.o⟩
     ·have g4:d.s.full=false:=by simpa using hf
      rw[g4]at t0 HR;have e0:QS (Bq l=rR false d.s.a Q.s.b L):=HR.o;have a5:=E (qC false d.s.a Q.s.b o2 c2 L wo A.o.row g3.o);clear hf g4 HR z;go_wp2_with fail;refine a5.o.mono ?_;rintro e w7 ⟨rfl,k7⟩;have x:=E (i9.o.tr k7 i_);clear k7 a5;go_wp2;go_ret2;exact⟨by rw[e0.o];rfl,x.o⟩
end
end Go.Proofs.YtjbkfdeldlajhaaGreatDoor
