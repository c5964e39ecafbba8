import Derived.Test.YtjbkfdeldlajhaaGreatDoorM44
import Derived.Test.YtjbkfdeldlajhaaGreatDoorRows
import Derived.LaidLaws
import Derived.LaidHandle
import Derived.Lib.LaidTab
import Derived.ProofKit
import Derived.OpenShut
import Derived.ShutString
import Derived.ChangeOld
import Derived.Below
import Derived.Deep.Slices
import Derived.Deep.DeepHandedRow
import Derived.Deep.DeepWitnessRowRef
set_option linter.unusedSimpArgs false
namespace Go.Proofs.YtjbkfdeldlajhaaGreatDoor
set_option maxRecDepth 100000
set_option maxHeartbeats 4000000
open Go.RowKit Go.Shelf Go.Proofs.Tryz Go.ChangeShapes Go.WideShapes Go.ChangeAt Go.Deep
open Option renaming none->Y,some->V
open Go.Value renaming int->Z,string->O,slice->J,bool->ao,pointer->X
open Go.IntKind renaming i64->U
open Go renaming World->ab,Calls->ba,Value->ax
open Go.Ending renaming returned->ay
open Go.Obj renaming cells->I
variable{w W:ab}{N K a b B g c j d o l f:Nat}{G:List Nat}
section
attribute [local go_sem] Oper.semAt_some
theorem Hd:Bq []=(⟨#[]⟩,6):=by unfold Bq;rw[fy (by intro t a;cases a)];rfl
theorem JD(d:Option Addr)(a:Nat)(b:List ByteArray)(w:ab)(e:lh w d b)(g:b.length<=1100000)(h:∀t∈b,t.size<=1000000000)(f:gK w):ba prog 45 #[J d b.length a] w (qI b w):=by
 by_cases c:b=[]
 ·subst c;show ba prog 45 #[J d 0 a] w (qI [] w);have i:=E Hd;clear e g h f;go_enter func45,ntmps45;go_wp2;go_ret2;exact⟨by rw[i.o];rfl,aa.refl _ _⟩
 ·exact JE d a b w e g h f c
theorem AY(d:Option Addr)(a:Nat)(b:List ByteArray)(w:ab)(e:lh w d b)(f:b.length<=1100000)(g:∀t∈b,t.size<=1000000000):ba prog 46 #[J d b.length a] w (qI b w):=by
 by_cases c:b=[]
 ·subst c;show ba prog 46 #[J d 0 a] w (qI [] w);have h:=E Hd;clear e f g;go_enter func46,ntmps46;go_wp2;go_ret2;exact⟨by rw[h.o];rfl,aa.refl _ _⟩
 ·exact AZ d a b w e f g c
theorem lh.ofRow{b:Option Addr}{l:List ByteArray}(h:Row w 9 1 (J b l.length a) l.length (l.flatMap eh)):lh w b l:=λi e=>by obtain⟨f,c,d,-,j⟩:=h.form;cases d;obtain⟨g,rfl⟩:=j (by omega);refine⟨g,0,rfl,?_⟩;rw[tA];exact Bh h (aa.refl _ _) (ec e)
theorem AI(oa:Option Addr)(C:Nat)(b:List ByteArray)(w:ab)(hT:lh w oa b)(hn:b.length<=1100000)(hs:∀t∈b,t.size<=1000000000)(hg:gK w):ba prog 16 #[J oa b.length C] w λe w'=>e=ay (ao true)/\aa n_ w w':=by
 obtain⟨i0,hi,S,T,a0⟩:=info_parts Tryz.se;have Q:=E hT;have HS:=E hs;have HG:=E hg;have H:=E hn;have b1:(b.length:Int)<=1100000:=by omega
 clear hT hs hg hn;go_enter func16,ntmps16;go_wp2_with fail;go_loopw [3,4] (λv i wr=>∃k:Nat,k<=b.length/\i=Z U (k:Nat)/\Made 9 1 eh w wr v (b.take k)) (λ_ i _=>b.length-(intOf i).toNat)
 case atStart=>exact⟨0,eL _,rfl,Made.nil (aa.refl _ _)⟩
 case round=>
  obtain⟨k,hk,rfl,o⟩:=hrel;have a9:(k:Int)<=b.length:=by omega
  obtain⟨ob,cb,rfl,-,-⟩:=o.row.form;by_cases n:k<b.length
  ·obtain⟨g,b2,rfl,r0⟩:=(Q.o.ai o.keep) k n;have R:QS (b.take (k+1)=b.take k++[b[k]]):=eu n;have a4:(k:Int)<b.length:=by omega
   have D:(b.take k).length<=1100000:=by rw[js];have:=H.o;omega
   have r:=E D;have HM:=E o;have z:=E n;have a2:((b.take k).length:Int)<=1100000:=by omega
   clear o D hk;generalize b[k]=d at*;clear n;generalize b.take k=al at*;go_wp2_with(first|(at_builtin;go_must(refine aL _ rfl _ _ 25 rfl 9 i0 _ 1 16 Tryz.underlying25 hi S T a0 rfl (J ob al.length cb) al.length _ rfl (HM.o.row.ai (aa.alloc n_ _ _) k_) ⟨wr.heap.size,0,Y⟩ 1 1 [O d] rfl rfl (br _ #[O d] _) (by simp[Value.oneCell']) (by have:=r.o;unfold maxLen;omega) (by have:=r.o;omega) ?_;intro v' w8 c f _ F;obtain⟨g',a1,rfl⟩:=c.succ;have K:=E (HM.o.push (a:=d) (aa.alloc n_ _ _) c f F);clear c f F))|fail)
   exact⟨⟨k+1,z.o,by go_num,by rw[R.o];exact K.o⟩,by simp only[intOf];have:=z.o;omega⟩
  ·obtain⟨w0,rfl⟩:∃w0,w0=wr:=⟨_,rfl⟩
   have b0:¬((k:Int)<b.length):=by omega
   have e:b.take k=b:=ep (by omega);rw[e]at o⊢;have p:=E (JD ob cb b w0 (lh.ofRow o.row) H.o HS.o (HG.o.ai o.keep));have q:=E (λW (hW:aa n_ w W)=>AY oa C b W (Q.o.ai hW) H.o HS.o);have G:=E o.keep;have P:=E o.row;unfold qI at p q;obtain⟨A,hA⟩:∃A,A=(Bq b).1:=⟨_,rfl⟩
   obtain⟨B,hB⟩:∃B,B=(Bq b).2:=⟨_,rfl⟩
   rw[<-hA,<-hB]at p q;clear o hk n e hA hB;go_wp2_with fail;refine p.o.mono ?_;rintro e w2 ⟨rfl,k2⟩;have u:=E (G.o.tr k2 i_);have M:=E (P.o.ai k2 k_);clear k2 p;go_wp2_with fail;refine(q.o _ u.o).mono ?_;rintro e w3 ⟨rfl,k3⟩;have x:=E (u.o.tr k3 i_);have N:=E (M.o.ai k3 k_);clear k3 q;go_wp2_with fail;go_loopw [9] (λi wr=>∃j:Nat,j<=b.length/\i=Z U (j:Nat)/\aa n_ w3 wr) (λi _=>b.length-(intOf i).toNat)
   case atStart=>exact⟨0,eL _,rfl,aa.refl _ _⟩
   case round=>
    obtain⟨j,hj,rfl,m⟩:=hrel;have a7:(j:Int)<=b.length:=by omega
    have y:=E m;by_cases l:j<b.length
    ·obtain⟨g1,a5,rfl,r1⟩:=(Q.o.ai (x.o.tr m i_)) j l;obtain⟨g2,a6,rfl,r2⟩:=(lh.ofRow (N.o.ai m k_)) j l;have a3:(j:Int)<b.length:=by omega
     have s:=E l;clear m hj;generalize b[j]=d at*;clear l;go_wp2_with fail;go_region;go_wp2;exact⟨⟨j+1,s.o,by go_num,y.o.dr⟩,by simp only[intOf];have:=s.o;omega⟩
    ·have a8:¬((j:Int)<b.length):=by omega
     have L:=E (λW=>eP (B:Nat) W);clear m hj l;go_wp2_with(go_at_call 20;go_must(refine(L.o _).mono ?_;rintro e w6 ⟨rfl,rfl⟩))
     go_ret;exact⟨rfl,x.o.tr y.o i_⟩
end
theorem Ks{z P:Nat}{Fs:List Nat}(k n L:Int)(m p:ByteArray)(fu:Bool)(ta:Option Addr)(C:List ByteArray)(tc:Nat)(sf:Bool)(s1 s2:Int)(ra:Option Addr)(q:List an)(rc:Nat)(w w0:ab)(h:iB N K w z P Fs G)(S:N<=9000000000)(x:K<=10000000000)(y:m.size<=maxLen)(H:p.size<=1000000000)(hm:-9223372036854775808<=L/\L<=9223372036854775807)(F:gK w0)(D:aa n_ w0 w)(b:∀j,j∈z::Fs\/j∈G->w0.heap.size<=j)(hT:lh w ta C)(i:C.length<=1100000)(l:∀t∈C,t.size<=1000000000)(T:cG w ra q)(f:q.length<=1100000)(g:∀r∈q,r.key.size<=maxLen/\r.value.size<=maxLen)(R:k<=21):ba prog 7 #[X (V ⟨z,0,Y⟩),X (V ⟨P,0,Y⟩),.agg #[Z U k,Z U n,Z U L,O m,O p,ao fu,J ta C.length tc,ao sf,Z U s1,Z U s2,J ra q.length rc]] w (iE N K z P Fs G w):=by
 by_cases Q:k<=12
 ·exact Na k n L m p _ _ _ _ _ _ w h (by omega) x y (by unfold maxLen;omega) hm Q
 have M:=E h;have HG:=E (λW (c:aa n_ w W)=>F.ai (D.tr c i_));have u:QS (∀W w',aa n_ w W->iX (K+1) P G W w'->bN (N+1000) (K+1) z P Fs G w w'):=λW w' y d=>((M.o.yS (d.pre y)).more (by omega) (eb _));have a:QS (∀o,aa n_ w (w.alloc o)):=λo=>aa.alloc _ _ _;by_cases hc:16<=k
 ·have v:=E (λW (c:aa n_ w W)=>EF k n L m p fu (J ta C.length tc) (ao sf) (Z U s1) (Z U s2) (J ra q.length rc) W w0 (h.ai c) S F (D.tr c i_) (λj hj=>b j (.inl hj)) H hc R);have n7:¬k<=7:=by omega
  have a3:¬k=13:=by omega
  have a4:¬k=14:=by omega
  have a5:¬k=15:=by omega
  clear h S x y H hm F D b hT i l T f g M HG u;go_enter func7,ntmps7;go_wp2_with(go_at_call 17;go_must(refine(v.o _ (a.o _)).mono ?_;rintro e w1 ⟨rfl,d⟩;have s:=E d;clear d))
  go_ret;exact⟨rfl,s.o.pre (a.o _)⟩
 ·have a1:k=13\/k=14\/k=15:=by omega
  clear hc Q R;rcases a1 with rfl|rfl|rfl
  ·have v:=E (λW (c:aa n_ w W)=>BE sf s1 s2 ra rc q W ((M.o.ai c).book) (HG.o W c) (T.ai c) f g x);clear h S x y H hm F D b hT i l T f g;generalize q.length=rl at*;go_enter func7,ntmps7;go_wp2_with(go_at_call 14;go_must(refine(v.o _ (a.o _)).mono ?_;rintro e w1 ⟨rfl,d⟩;have s:=E d;clear d))
   go_ret;exact⟨rfl,u.o _ _ (a.o _) s.o⟩
  ·have v:=E (λW (c:aa n_ w W) t (ht:t.size<=1000000000)=>tZ t W ((M.o.ai c).book) (HG.o W c) ht x);have HV:=E H;obtain⟨xb,yb,tx,A,B,FG,FF,hp,h2,a2,rfl⟩:=id h.oK;have a0:QS (∀o,(w.alloc o).cell? ⟨z,2,Y⟩=V (O tx.1)):=λo=>ae (((aa.alloc n_ w o).block z (lg hp) (λh=>h)).trans hp) 2;have c2:=a0.o (I #[Z U 14,Z U n,Z U L,O m,O p,ao fu,J ta C.length tc,ao sf,Z U s1,Z U s2,J ra q.length rc] 30);clear h S x y H hm F D b hT i l T f g hp h2 a2;go_enter func7,ntmps7;go_wp2_with(go_at_call 15;go_must(refine(v.o _ (a.o _) _ (by first|exact tx.2|exact HV.o)).mono ?_;rintro e w1 ⟨rfl,d⟩;have s:=E d;clear d))
   all_goals
    go_ret;exact⟨rfl,u.o _ _ (a.o _) s.o⟩
  ·have v:=E (λW (c:aa n_ w W)=>AI ta tc C W (hT.ai c) i l (HG.o W c));clear h S x y H hm F D b hT i l T f g;go_enter func7,ntmps7;go_wp2_with(go_at_call 16;go_must(refine(v.o _ (a.o _)).mono ?_;rintro e w1 ⟨rfl,d⟩;have s:=E d;clear d))
   go_ret;exact⟨rfl,M.o.same ((a.o _).tr s.o i_)⟩
theorem Row.Qg{n:Nat}{m:ByteArray}(h:Row w 68 2 (J (V ⟨g,0,Y⟩) n a) n (full 2 jm m n))(b:j<n):w.cell? ⟨g,j*2,Y⟩=V (O m)/\w.cell? ⟨g,j*2+1,Y⟩=V (O m):=
 ⟨(h.cellAt (j*2) (by omega)).trans (gZ (by omega)),(h.cellAt (j*2+1) (by omega)).trans (gZ (by omega))⟩
theorem Row.Qh{n:Nat}{m:ByteArray}(h:Row w 70 3 (J (V ⟨g,0,Y⟩) n a) n (full 3 ix m n))(b:j<n):w.cell? ⟨g,j*3,Y⟩=V (O m)/\w.cell? ⟨g,j*3+1,Y⟩=V (O m)/\w.cell? ⟨g,j*3+2,Y⟩=V (ao true):=
 ⟨(h.cellAt (j*3) (by omega)).trans ((gZ (by omega)).trans (by unfold ix;rw[el (by omega)])),(h.cellAt (j*3+1) (by omega)).trans ((gZ (by omega)).trans (by unfold ix;rw[el (by omega)])),(h.cellAt (j*3+2) (by omega)).trans ((gZ (by omega)).trans (by unfold ix;rw[fy (by omega)]))⟩
theorem Part.at_{u p:Nat}{e:ByteArray->Nat->ax}{r q:Nat}{b:List (ax×ByteArray)}(h:Part u p j e K w (J (V ⟨o,0,Y⟩) b.length r) (J (V ⟨l,0,Y⟩) b.length q) b){k:Nat}(i:k<b.length):∃d n f m,w.cell? ⟨o,k,Y⟩=V (J d n f)/\w.cell? ⟨l,k,Y⟩=V (O m)/\n<=100000000000/\Row w p j (J d n f) n (full j e m n)/\(0<n->∃g,d=V ⟨g,0,Y⟩):=by
 obtain⟨n,s,a⟩:=h.lists _ (nE i);obtain⟨d,f,c,-,t⟩:=a.form;refine⟨d,n,f,b[k].2,?_,?_,s,c▸a,t⟩
 ·rw[h.lB.cellAt k (by omega),vk,ec i,<-c];rfl
 ·rw[h.marks.cellAt k (by omega),vk,ec i];rfl
theorem zi{t:Nat}(w:ab)(h:oJ K w t G)(hK:K<=10000000000):ba prog 8 #[X (V ⟨t,0,Y⟩)] w λe w'=>e=ay (ao true)/\aa n_ w w':=by
 obtain⟨vp,vm,vr,vn,nx,o,p,h,rfl⟩:=h;obtain⟨op,cp,rfl,L,sp⟩:=h.p.lB.form;obtain⟨om,cm,rfl,F,sm⟩:=h.p.marks.form;obtain⟨oq,cq,rfl,M,sq⟩:=h.r.lB.form;obtain⟨on,cn,rfl,H,sn⟩:=h.r.marks.form;have z:w.cell? ⟨t,0,Y⟩=V (J op o.length cp):=ae h.top 0;have A:w.cell? ⟨t,1,Y⟩=V (J om o.length cm):=ae h.top 1;have R:=E (show w.cell? ⟨t,2,Y⟩=V (J oq p.length cq)from ae h.top 2);have S:=E (show w.cell? ⟨t,3,Y⟩=V (J on p.length cn)from ae h.top 3);have v:=h.p.len;have s:=h.r.len;have HB:=E h.p;have HR:=E h.r;have SP:=E sp;have SM:=E sm;have SQ:=E sq;have SN:=E sn;have hL:(o.length:Int)<=40000000000:=by omega
 have B:QS ((p.length:Int)<=40000000000):=by show _<=_;omega
 unfold maxLen at L F M H;clear h sp sm sq sn v s hK;go_enter func8,ntmps8;go_wp2_with fail;go_loopw [3] (λi wr=>∃k:Nat,k<=o.length/\i=Z U k/\aa n_ w wr) (λi _=>o.length-(intOf i).toNat)
 case atStart=>exact⟨0,eL _,rfl,aa.refl _ _⟩
 case round=>
  obtain⟨k,T,rfl,b⟩:=hrel;have W:=b.cell z id;have q1:=b.cell A id;by_cases l:k<o.length
  ·obtain⟨gp,rfl⟩:=SP.o (by omega);obtain⟨gm,rfl⟩:=SM.o (by omega);obtain⟨ol,n,cl,m,q,u,hn,c,y⟩:=HB.o.at_ l;have P:=b.cell q id;have g:=E c;have C:=E y;have f:=E b;have N:(n:Int)<=100000000000:=by omega
   have x:(k:Int)<o.length:=by omega
   clear c y b;go_wp2_with fail;go_loopw [4] (λi Q=>∃j:Nat,j<=n/\i=Z U j/\aa n_ w Q) (λi _=>n-(intOf i).toNat)
   case atStart=>exact⟨0,eL _,rfl,f.o⟩
   case round=>
    obtain⟨j,hj,rfl,a⟩:=hrel;have p0:=a.cell z id;have p1:=a.cell A id;have p3:=a.cell q id;have p4:=a.cell u id;by_cases r:j<n
    ·obtain⟨gl,rfl⟩:=C.o (by omega);obtain⟨y0,y1⟩:=(g.o.ai a k_).Qg r;have d:=E a;clear a W q1 P z A q u;go_wp2_with fail;go_region;go_wp2;exact⟨⟨j+1,by omega,by go_num,d.o.dr⟩,by simp only[intOf];omega⟩
    ·have d:=E a;clear a;go_wp2;exact⟨⟨k+1,by omega,by go_num,d.o⟩,by simp only[intOf];omega⟩
  ·obtain⟨w0,rfl⟩:∃w0,w0=wr:=⟨_,rfl⟩
   have f:=E b;have D:¬((k:Int)<o.length):=by omega
   clear b l;go_wp2_with fail;clear W q1 z A D T hL;have a0:=B.o;go_loopw [5] (λi wr=>∃k:Nat,k<=p.length/\i=Z U k/\aa n_ w wr) (λi _=>p.length-(intOf i).toNat)
   case atStart=>exact⟨0,eL _,rfl,f.o⟩
   case round=>
    obtain⟨k,T,rfl,b⟩:=hrel;have q2:=b.cell R.o id;have P:=b.cell S.o id;by_cases l:k<p.length
    ·obtain⟨gp,rfl⟩:=SQ.o (by omega);obtain⟨gm,rfl⟩:=SN.o (by omega);obtain⟨ol,n,cl,m,q,u,hn,c,y⟩:=HR.o.at_ l;have q4:=b.cell q id;have g:=E c;have C:=E y;have f:=E b;have N:(n:Int)<=100000000000:=by omega
     have x:(k:Int)<p.length:=by omega
     clear c y b;go_wp2_with fail;go_loopw [6] (λi Q=>∃j:Nat,j<=n/\i=Z U j/\aa n_ w Q) (λi _=>n-(intOf i).toNat)
     case atStart=>exact⟨0,eL _,rfl,f.o⟩
     case round=>
      obtain⟨j,hj,rfl,a⟩:=hrel;have p2:=a.cell R.o id;have p1:=a.cell S.o id;have p3:=a.cell q id;have p4:=a.cell u id;by_cases r:j<n
      ·obtain⟨gl,rfl⟩:=C.o (by omega);obtain⟨y0,y1,y2⟩:=(g.o.ai a k_).Qh r;have d:=E a;clear a q2 P q4 q u;go_wp2_with fail;go_region;go_wp2;exact⟨⟨j+1,by omega,by go_num,d.o.dr⟩,by simp only[intOf];omega⟩
      ·have d:=E a;clear a;go_wp2;exact⟨⟨k+1,by omega,by go_num,d.o⟩,by simp only[intOf];omega⟩
    ·have f:=E b;clear b;go_wp2;go_ret;exact⟨rfl,f.o⟩
structure Pb(B N K:Nat)(w:ab)(pb qb bb:Nat)(F1 F2 G:List Nat):Prop where
 p:iB N K w pb bb F1 G
 q:uV N w qb F2
 apart:∀k∈qb::F2,k∉pb::F1/\k∉G
 CJ:∀k∈pb::F1,B<=k
 Oe:∀k∈qb::F2,B<=k
 JH:∀k∈G,B<=k
def mo(B N K:Nat)(w:ab)(d e c:Nat):Prop:=∃a b G,Pb B N K w d e c a b G
theorem mo.ai{e:ab}(h:mo B N K w c d a)(b:aa n_ w e):mo B N K e c d a:=by obtain⟨f,g,G,h⟩:=h;exact⟨f,g,G,h.p.ai b,h.q.ai b k_,h.apart,h.CJ,h.Oe,h.JH⟩
theorem mo.more{e:Nat}(h:mo B N K w e f c)(d:N<=b)(j:K<=a):mo B b a w e f c:=by obtain⟨g,i,G,h⟩:=h;exact⟨g,i,G,h.p.more d j,h.q.more d,h.apart,h.CJ,h.Oe,h.JH⟩
theorem mo.swap(h:mo B N K w c d b):mo B N K w d c b:=by obtain⟨e,f,G,h⟩:=h;exact⟨f,e,G,⟨h.q,h.p.book,λk a=>(h.apart k a).2⟩,h.p.oK,λk a=>⟨λg=>(h.apart k g).1 a,h.p.apart k a⟩,h.Oe,h.CJ,h.JH⟩
theorem mo.book(h:mo B N K w b c a):∃G,oJ K w a G:=by obtain⟨d,e,G,h⟩:=h;exact⟨G,h.p.book⟩
theorem mo.step{m:ab}{x:Nat}{d:Array ax}(h:mo B N K w g x l)(u:m.heap.size<=B)(t:aa n_ m w)(F:∀j G,iB N K w g l j G->(∀k,k∈g::j\/k∈G->m.heap.size<=k)->ba prog f d w (iE N K g l j G w)):ba prog f d w λe p=>e=ay (ao true)/\mo B (N+1000) (K+1) p g x l/\aa n_ m p:=by
 obtain⟨j,y,G,h⟩:=h;refine(F j G h.p (λk a=>by rcases a with a|a;exact mA u (h.CJ k a);exact mA u (h.JH k a))).mono ?_;rintro e p ⟨rfl,n,z,A,q,r,s⟩;have H:=t.size;have v:=h.q.lt;have C:B<=w.heap.size:=by have:=h.CJ g (by simp);have:=h.p.oK.lt g (by simp);omega
 refine⟨rfl,⟨n,y,z,A,(h.q.ai q (λk a c=>?_)).more (by omega),λk a=>⟨λo=>?_,λD=>?_⟩,λk a=>?_,h.Oe,λk a=>?_⟩,t.trans q (λi L c=>?_)⟩
 ·rcases c with c|c
  ·exact(h.apart k a).1 c
  ·exact(h.apart k a).2 c
 ·rcases cT.1 o with rfl|o
  ·exact(h.apart _ a).1 (by simp)
  ·rcases r k o with b|b
   ·exact(h.apart k a).1 (ef _ b)
   ·have:=v k a;omega
 ·rcases s k D with b|b
  ·exact(h.apart k a).2 b
  ·have:=v k a;omega
 ·rcases cT.1 a with rfl|a
  ·exact h.CJ _ (by simp)
  ·rcases r k a with b|b
   ·exact h.CJ k (ef _ b)
   ·omega
 ·rcases s k a with b|b
  ·exact h.JH k b
  ·omega
 ·rcases c with c|c
  ·have:=h.CJ i c;omega
  ·have:=h.JH i c;omega
theorem GJ{a:ab}(h:ml 0 a b aX.zero [b]):uV 0 ((a.alloc (I (aM.zero a.heap.size).top 40)).alloc (I (cc b a.heap.size ⟨⟨#[]⟩,eL _⟩) 42)) (a.heap.size+1) [b,a.heap.size]:=by
 have i:=h.lt b (by simp);have c:((a.alloc (I (aM.zero a.heap.size).top 40)).alloc (I (cc b a.heap.size ⟨⟨#[]⟩,eL _⟩) 42)).heap[a.heap.size+1]?=V (I (cc b a.heap.size ⟨⟨#[]⟩,eL _⟩) 42 (0,0)):=by have:=az (a.alloc (I (aM.zero a.heap.size).top 40)) (I (cc b a.heap.size ⟨⟨#[]⟩,eL _⟩) 42);simpa using this
 have d:((a.alloc (I (aM.zero a.heap.size).top 40)).alloc (I (cc b a.heap.size ⟨⟨#[]⟩,eL _⟩) 42)).heap[a.heap.size]?=V (I (aM.zero a.heap.size).top 40 (0,0)):=by rw[(aa.alloc n_ _ _).block _ (by simp) id];exact az a _
 refine⟨b,a.heap.size,⟨⟨#[]⟩,eL _⟩,aX.zero,aZ.zero,[b],[a.heap.size],c,⟨h.ai (((aa.refl n_ a).al _).al _) k_,Qm d,Km,λk f e=>?_⟩,λg=>?_,rfl⟩
 ·have j:k=b:=by simpa using f
  have l:k=a.heap.size:=by simpa using e
  omega
 ·simp at g;omega
theorem Nh{c d a b:ab}(g:uV 0 d (c.heap.size+1) [w.heap.size,c.heap.size])(o:w.heap.size<c.heap.size)(p:d.heap.size=c.heap.size+2)(l:aa n_ d a)(q:d.heap.size<a.heap.size)(i:uV 0 b (a.heap.size+1) [d.heap.size,a.heap.size])(r:b.heap.size=a.heap.size+2)(m:aa n_ a b):mo w.heap.size 0 0 (b.alloc (I #[J Y 0 0,J Y 0 0,J Y 0 0,J Y 0 0,Z U 0] 47)) (c.heap.size+1) (a.heap.size+1) b.heap.size:=by
 have e:=aa.alloc n_ b (I #[J Y 0 0,J Y 0 0,J Y 0 0,J Y 0 0,Z U 0] 47);refine⟨[w.heap.size,c.heap.size],[d.heap.size,a.heap.size],[b.heap.size],⟨((g.ai l k_).ai m k_).ai e k_,Mo (az b _),λk f j=>?_⟩,i.ai e k_,λk f=>⟨λn=>?_,λj=>?_⟩,λk f=>?_,λk f=>?_,λk f=>?_⟩;all_goals simp only[cT,RQ,TP]at*
 all_goals omega
theorem Ob{A:aZ}{F:List Nat}(h:oO N w b A F)(g:N<=10000000000):ba prog 11 #[X (V ⟨b,0,Y⟩)] w λe c=>e=ay (.agg #[Z U A.now,Z U A.aK,Z U A.af.length,Z U A.aN.length,Z U (gW A.all),Z U A.aC.length])/\aa n_ w c:=by obtain⟨R,a,rfl,rfl,rfl⟩:=h;have f:=a.mq;refine(zh R w a.at_ (by omega)).mono ?_;rintro e c ⟨rfl,d⟩;exact⟨by simp[aM.dF],d⟩
structure Looks(w:ab)(pb xb yb:Nat)(r1 r2 r3 r4 r5 r6:Int):Prop where
 x:w.cell? ⟨pb,0,Y⟩=V (X (V ⟨xb,0,Y⟩))
 y:w.cell? ⟨pb,1,Y⟩=V (X (V ⟨yb,0,Y⟩))
 lx:∀W,aa n_ w W->ba prog 10 #[X (V ⟨xb,0,Y⟩)] W λe w'=>e=ay (.agg #[Z U r1,Z U r2,Z U r3,Z U r4,Z U r5,Z U r6])/\aa n_ w w'
 ly:∀W,aa n_ w W->ba prog 11 #[X (V ⟨yb,0,Y⟩)] W λe w'=>e=ay (.agg #[Z U r1,Z U r2,Z U r3,Z U r4,Z U r5,Z U r6])/\aa n_ w w'
theorem uV.looks{i:Nat}{j:List Nat}(h:uV N w i j)(k:N<=10000000000):∃d f l m n o p q,Looks w i d f l m n o p q:=by obtain⟨d,f,v,A,B,t,s,g,a,u,rfl⟩:=h;refine⟨d,f,_,_,_,_,_,_,ae g 0,ae g 1,λW b=>(Mg (a.x.ai b k_) (by omega)).mono λe r c=>⟨c.1,b.tr c.2.2 i_⟩,λW b=>?_⟩;rw[a.kY.now,a.kY.aK,a.kY.OQ,a.kY.cF,a.kY.total,a.kY.Qc];exact(Ob (a.y.ai b k_) k).mono λe r c=>⟨c.1,b.tr c.2 i_⟩
theorem mo.looks(h:mo B N K w a d b)(c:N<=10000000000):∃l m e f g i j k,Looks w a l m e f g i j k:=by obtain⟨n,o,G,h⟩:=h;exact h.p.oK.looks c
structure qv where
 k:Int
 n:Int
 m:Int
 key:ByteArray
 val:ByteArray
 full:Bool
 ta:Option Addr
 tl:Nat
 tc:Nat
 OS:Bool
 OR:Int
 QO:Int
 ra:Option Addr
 rl:Nat
 rc:Nat
structure Hy(w:ab)(b o:Nat)(s:qv):Prop where
 c0:w.cell? ⟨b,o,Y⟩=V (Z U s.k)
 c1:w.cell? ⟨b,o+1,Y⟩=V (Z U s.n)
 c2:w.cell? ⟨b,o+2,Y⟩=V (Z U s.m)
 c3:w.cell? ⟨b,o+3,Y⟩=V (O s.key)
 c4:w.cell? ⟨b,o+4,Y⟩=V (O s.val)
 c5:w.cell? ⟨b,o+5,Y⟩=V (ao s.full)
 c6:w.cell? ⟨b,o+6,Y⟩=V (J s.ta s.tl s.tc)
 c7:w.cell? ⟨b,o+7,Y⟩=V (ao s.OS)
 c8:w.cell? ⟨b,o+8,Y⟩=V (Z U s.OR)
 c9:w.cell? ⟨b,o+9,Y⟩=V (Z U s.QO)
 c10:w.cell? ⟨b,o+10,Y⟩=V (J s.ra s.rl s.rc)
 bk:-9223372036854775808<=s.k/\s.k<=9223372036854775807
 bm:-9223372036854775808<=s.m/\s.m<=9223372036854775807
 bkey:s.key.size<=maxLen
 bval:s.val.size<=maxLen
def oW(w:ab)(c:Option Addr)(n:Nat)(S:Nat->qv):Prop:=∀i,i<n->∃b a,c=V ⟨b,a,Y⟩/\Hy w b (a+i*11) (S i)
theorem Hy.ai{c:ab}{s:qv}(h:Hy w b o s)(a:aa n_ w c):Hy c b o s:=
 ⟨a.cell h.c0 id,a.cell h.c1 id,a.cell h.c2 id,a.cell h.c3 id,a.cell h.c4 id,a.cell h.c5 id,a.cell h.c6 id,a.cell h.c7 id,a.cell h.c8 id,a.cell h.c9 id,a.cell h.c10 id,h.bk,h.bm,h.bkey,h.bval⟩
theorem oW.ai{d:ab}{c:Option Addr}{n:Nat}{S:Nat->qv}(h:oW w c n S)(j:aa n_ w d):oW d c n S:=λi g=>by obtain⟨b,a,e,f⟩:=h i g;exact⟨b,a,e,f.ai j⟩
def OY(w:ab)(c k:Nat)(p q i:ax)(wr:ab):Prop:=
 ∃a b,p=X (V ⟨a,0,Y⟩)/\q=X (V ⟨b,0,Y⟩)/\i=Z U k/\mo w.heap.size (k*1000) k wr a b c/\aa n_ w wr
structure oV(w:ab)(s:qv)(ts:List ByteArray)(rs:List an):Prop where
 tl:s.tl=ts.length
 rl:s.rl=rs.length
 QR:lh w s.ta ts
 bS:cG w s.ra rs
 tn:ts.length<=1100000
 tz:∀t∈ts,t.size<=1000000000
 rn:rs.length<=1100000
 rz:∀r∈rs,r.key.size<=maxLen/\r.value.size<=maxLen
 vz:s.val.size<=1000000000
theorem zy(oa:Option Addr)(l f0:Nat)(S:Nat->qv)(T:Nat->List ByteArray)(R:Nat->List an)(w:ab)(h:oW w oa l S)(hx:∀i,i<l->oV w (S i) (T i) (R i))(hl:l<=2000000)(hg:gK w):ba prog 5 #[J oa l f0,Z U 21] w λe o=>e=ay (ao true)/\aa n_ w o:=by
 have C:=E h;have a2:=E hx;have d6:=E hg;have u:=E (λW=>Qn W);have f3:(l:Int)<=2000000:=by omega
 have A:=E hl;clear h hl hx hg;go_enter func5,ntmps5;go_wp2_with fail;refine(u.o _).mono ?_;rintro e c ⟨rfl,s1,k1⟩;have z1:w.heap.size<c.heap.size:=s1.lt _ (by simp);have D1:QS (uV 0 ((c.alloc (I #[J Y 0 0,Z U 0,Z U 0,J Y 0 0,Z U 0,J Y 0 0,J Y 0 0,Z U 0] 40)).alloc (I #[X (V ⟨w.heap.size,0,Y⟩),X (V ⟨c.heap.size,0,Y⟩),O ⟨#[]⟩] 42)) (c.heap.size+1) [w.heap.size,c.heap.size]):=GJ s1;have K1:=E k1;have K2:QS (aa n_ c ((c.alloc (I #[J Y 0 0,Z U 0,Z U 0,J Y 0 0,Z U 0,J Y 0 0,J Y 0 0,Z U 0] 40)).alloc (I #[X (V ⟨w.heap.size,0,Y⟩),X (V ⟨c.heap.size,0,Y⟩),O ⟨#[]⟩] 42))):=((aa.refl n_ c).al _).al _;have Z2:QS ((((c.alloc (I #[J Y 0 0,Z U 0,Z U 0,J Y 0 0,Z U 0,J Y 0 0,J Y 0 0,Z U 0] 40)).alloc (I #[X (V ⟨w.heap.size,0,Y⟩),X (V ⟨c.heap.size,0,Y⟩),O ⟨#[]⟩] 42)).heap).size=c.heap.size+2):=by show _=_;simp
 have T2:QS ((((c.alloc (I #[J Y 0 0,Z U 0,Z U 0,J Y 0 0,Z U 0,J Y 0 0,J Y 0 0,Z U 0] 40)).alloc (I #[X (V ⟨w.heap.size,0,Y⟩),X (V ⟨c.heap.size,0,Y⟩),O ⟨#[]⟩] 42)).heap)[c.heap.size+1]?=V (I #[X (V ⟨w.heap.size,0,Y⟩),X (V ⟨c.heap.size,0,Y⟩),O ⟨#[]⟩] 42 (0,0))):=by have:=az (c.alloc (I #[J Y 0 0,Z U 0,Z U 0,J Y 0 0,Z U 0,J Y 0 0,J Y 0 0,Z U 0] 40)) (I #[X (V ⟨w.heap.size,0,Y⟩),X (V ⟨c.heap.size,0,Y⟩),O ⟨#[]⟩] 42);show _=_;simpa using this
 clear s1 k1;go_wp2_with fail;generalize ((c.alloc (I #[J Y 0 0,Z U 0,Z U 0,J Y 0 0,Z U 0,J Y 0 0,J Y 0 0,Z U 0] 40)).alloc (I #[X (V ⟨w.heap.size,0,Y⟩),X (V ⟨c.heap.size,0,Y⟩),O ⟨#[]⟩] 42))=w2 at*;refine(u.o _).mono ?_;rintro e d ⟨rfl,s3,k3⟩;have z3:w2.heap.size<d.heap.size:=s3.lt _ (by simp);have D3:QS (uV 0 ((d.alloc (I #[J Y 0 0,Z U 0,Z U 0,J Y 0 0,Z U 0,J Y 0 0,J Y 0 0,Z U 0] 40)).alloc (I #[X (V ⟨w2.heap.size,0,Y⟩),X (V ⟨d.heap.size,0,Y⟩),O ⟨#[]⟩] 42)) (d.heap.size+1) [w2.heap.size,d.heap.size]):=GJ s3;have K3:=E k3;have K4:QS (aa n_ d ((d.alloc (I #[J Y 0 0,Z U 0,Z U 0,J Y 0 0,Z U 0,J Y 0 0,J Y 0 0,Z U 0] 40)).alloc (I #[X (V ⟨w2.heap.size,0,Y⟩),X (V ⟨d.heap.size,0,Y⟩),O ⟨#[]⟩] 42))):=((aa.refl n_ d).al _).al _;have Z4:QS ((((d.alloc (I #[J Y 0 0,Z U 0,Z U 0,J Y 0 0,Z U 0,J Y 0 0,J Y 0 0,Z U 0] 40)).alloc (I #[X (V ⟨w2.heap.size,0,Y⟩),X (V ⟨d.heap.size,0,Y⟩),O ⟨#[]⟩] 42)).heap).size=d.heap.size+2):=by show _=_;simp
 have T4:QS ((((d.alloc (I #[J Y 0 0,Z U 0,Z U 0,J Y 0 0,Z U 0,J Y 0 0,J Y 0 0,Z U 0] 40)).alloc (I #[X (V ⟨w2.heap.size,0,Y⟩),X (V ⟨d.heap.size,0,Y⟩),O ⟨#[]⟩] 42)).heap)[d.heap.size+1]?=V (I #[X (V ⟨w2.heap.size,0,Y⟩),X (V ⟨d.heap.size,0,Y⟩),O ⟨#[]⟩] 42 (0,0))):=by have:=az (d.alloc (I #[J Y 0 0,Z U 0,Z U 0,J Y 0 0,Z U 0,J Y 0 0,J Y 0 0,Z U 0] 40)) (I #[X (V ⟨w2.heap.size,0,Y⟩),X (V ⟨d.heap.size,0,Y⟩),O ⟨#[]⟩] 42);show _=_;simpa using this
 clear s3 k3;go_upto_region 3 with fail;generalize ((d.alloc (I #[J Y 0 0,Z U 0,Z U 0,J Y 0 0,Z U 0,J Y 0 0,J Y 0 0,Z U 0] 40)).alloc (I #[X (V ⟨w2.heap.size,0,Y⟩),X (V ⟨d.heap.size,0,Y⟩),O ⟨#[]⟩] 42))=w4 at*;have y0:w4.cell? ⟨c.heap.size+1,0,Y⟩=V (X (V ⟨w.heap.size,0,Y⟩)):=K4.o.cell (K3.o.cell (ae T2.o 0) id) id;have y1:w4.cell? ⟨d.heap.size+1,0,Y⟩=V (X (V ⟨w2.heap.size,0,Y⟩)):=ae T4.o 0;have HT:=E (Nh D1.o z1 Z2.o K3.o z3 D3.o Z4.o K4.o);have a3:QS (aa n_ w (w4.alloc (I #[J Y 0 0,J Y 0 0,J Y 0 0,J Y 0 0,Z U 0] 47))):=((((K1.o.tr K2.o i_).tr K3.o i_).tr K4.o i_).al _)
 clear D1 D3 K1 K2 K3 K4 Z2 Z4 T2 T4;go_wp2_with fail;generalize w4.alloc (I #[J Y 0 0,J Y 0 0,J Y 0 0,J Y 0 0,Z U 0] 47)=w5 at*;generalize w4.heap.size=D at*;clear y0 y1;go_loopw [5,6,8] (λp q i wr=>∃k:Nat,k<=l/\OY w D k p q i wr) (λ_ _ i _=>l-(intOf i).toNat)
 case atStart=>exact⟨0,eL _,_,_,rfl,rfl,rfl,by simpa using HT.o,a3.o⟩
 case round=>
  obtain⟨k,hk,y,B,rfl,rfl,rfl,b1,a9⟩:=hrel;have n:=E b1;have f:=E a9;clear b1 a9 HT a3 u z1 z3;by_cases b0:k<l
  ·obtain⟨b,f4,rfl,f2⟩:=C.o.ai f.o k b0;obtain⟨b9,b6,xt,xr,d2,d3,b7,b8,d4⟩:=a2.o k b0;have g:=E (And.intro (xt.ai f.o) (And.intro d2 (And.intro d3 (And.intro (xr.ai f.o) (And.intro b7 (And.intro b8 d4))))));clear xt xr d2 d3 b7 b8 d4;generalize T k=ts at*;generalize R k=rs at*;generalize S k=s at*;obtain⟨ok,on,om,F,H,fu,ta,tl,tc,sf,s1,s2,ra,rl,rc⟩:=s;obtain⟨c0,c1,c2,c3,c4,c5,c6,c7,c8,c9,e9,bk,bm,j,m⟩:=f2;simp only at c0 c1 c2 c3 c4 c5 c6 c7 c8 c9 e9 bk bm j m b9 b6 g;subst b9;subst b6;have K:QS (∀W,aa n_ wr W->ba prog 8 #[X (V ⟨D,0,Y⟩)] W λe o=>e=ay (ao true)/\aa n_ W o):=λW N=>by obtain⟨G,hG⟩:=(n.o.ai N).book;have:=A.o;exact zi W hG (by omega)
   by_cases h8:ok=8
   ·subst h8;clear bk bm j m;go_wp2_with(go_at_call 8;go_must(refine(K.o _ ((aa.refl _ _).al _)).mono ?_;rintro e P ⟨rfl,x⟩;have t:=E x;clear x))
    have v:aa n_ wr P:=((aa.refl _ _).al _).tr t.o i_;exact⟨⟨k+1,by omega,B,y,rfl,rfl,by go_num,(n.o.swap.ai v).more (by omega) (by omega),f.o.tr v i_⟩,by simp only[intOf];omega⟩
   ·by_cases f1:ok<=21
    ·have e4:QS (∀W,aa n_ wr W->ba prog 7 #[X (V ⟨y,0,Y⟩),X (V ⟨D,0,Y⟩),.agg #[Z U ok,Z U on,Z U om,O F,O H,ao fu,J ta ts.length tc,ao sf,Z U s1,Z U s2,J ra rs.length rc]] W λe o=>e=ay (ao true)/\mo w.heap.size (k*1000+1000) (k+1) o y B D/\aa n_ w o):=λW N=>
      (n.o.ai N).step (eb _) (f.o.tr N i_) (λF1 G hb hn=>Ks ok on om F H fu ta ts tc sf s1 s2 ra rs rc W w hb (by have:=A.o;omega) (by have:=A.o;omega) j g.o.2.2.2.2.2.2 bm d6.o (f.o.tr N i_) hn (g.o.1.ai N) g.o.2.1 g.o.2.2.1 (g.o.2.2.2.1.ai N) g.o.2.2.2.2.1 g.o.2.2.2.2.2.1 f1)
     clear bk bm j m K;go_wp2_with(first
      |(go_at_call 7;go_must(refine(e4.o _ ((aa.refl _ _).al _)).mono ?_;rintro e P ⟨rfl,t6,x⟩;have a6:=E t6;have t:=E x;clear t6 x))
      |(go_at_call 8;go_must(obtain⟨G6,a7⟩:=a6.o.book;have d5:=E a7;clear a7;refine(zi _ d5.o (by have:=A.o;omega)).mono ?_;rintro e w7 ⟨rfl,k7⟩;have z:=E k7;clear k7)))
     exact⟨⟨k+1,by omega,y,B,rfl,rfl,by go_num,(a6.o.ai z.o).more (by omega) (by omega),t.o.tr z.o i_⟩,by simp only[intOf];omega⟩
    ·clear bk bm j m;go_wp2_with(go_at_call 8;go_must(refine(K.o _ ((aa.refl _ _).al _)).mono ?_;rintro e P ⟨rfl,x⟩;have t:=E x;clear x))
     have v:aa n_ wr P:=((aa.refl _ _).al _).tr t.o i_;exact⟨⟨k+1,by omega,y,B,rfl,rfl,by go_num,(n.o.ai v).more (by omega) (by omega),f.o.tr v i_⟩,by simp only[intOf];omega⟩
  ·have a0:QS (ba prog 9 #[X (V ⟨y,0,Y⟩),X (V ⟨D,0,Y⟩)] wr λe o=>e=ay (ao true)/\mo w.heap.size (k*1000+1000) (k+1) o y B D/\aa n_ w o):=
    n.o.step (eb _) f.o (λF1 G hb _=>yP wr hb (by have:=A.o;omega) (by have:=A.o;omega))
   clear n f C;go_wp2_with fail;refine(a0.o).mono ?_;rintro e P ⟨rfl,t6,x⟩;have a1:QS (ba prog 9 #[X (V ⟨B,0,Y⟩),X (V ⟨D,0,Y⟩)] P λe o=>e=ay (ao true)/\mo w.heap.size (k*1000+1000+1000) (k+1+1) o B y D/\aa n_ w o):=
    t6.swap.step (eb _) x (λF1 G hb _=>yP P hb (by have:=A.o;omega) (by have:=A.o;omega))
   clear t6 x a0;go_wp2_with fail;refine(a1.o).mono ?_;rintro e w7 ⟨rfl,t7,k7⟩;have L:=E t7;have z:=E k7;clear t7 k7 a1;have M:k*1000+1000+1000<=10000000000:=by have:=A.o;omega
   obtain⟨xp,yp,p1,p2,p3,p4,p5,p6,LP⟩:=L.o.swap.looks M;obtain⟨xq,yq,q1,q2,q3,q4,q5,q6,LQ⟩:=L.o.looks M;obtain⟨c0,c1,b2,b4⟩:=LP;obtain⟨d0,d1,b3,b5⟩:=LQ;have e5:=E b2;have e7:=E b4;have e6:=E b3;have e8:=E b5;have a:=E (And.intro c0 (And.intro c1 (And.intro d0 d1)));clear b2 b4 b3 b5 M L;go_upto_region 24 with fail;go_cut [4] (λr wc=>r=ao true/\aa n_ w7 wc)
   case first=>
    go_region_held3(λW=>W.cell? ⟨y,0,Y⟩=V (X (V ⟨xp,0,Y⟩))/\W.cell? ⟨y,1,Y⟩=V (X (V ⟨yp,0,Y⟩))/\W.cell? ⟨B,0,Y⟩=V (X (V ⟨xq,0,Y⟩))/\W.cell? ⟨B,1,Y⟩=V (X (V ⟨yq,0,Y⟩))) (go_keep) (first
     |(go_at_call 10;have hh:=a4.o;clear hh;refine(e6.o _ a4.o).mono ?_;rintro e wa ⟨rfl,ka⟩;have i0:=ka.cell a.o.1 id;have i1:=ka.cell a.o.2.1 id;have i2:=ka.cell a.o.2.2.1 id;have i3:=ka.cell a.o.2.2.2 id;have a5:=E ka;clear ka)
     |(go_at_call 10;refine(e5.o _ (aa.drew _ _)).mono ?_;rintro e w8 ⟨rfl,Q⟩;have e0:=Q.cell a.o.1 id;have e1:=Q.cell a.o.2.1 id;have e2:=Q.cell a.o.2.2.1 id;have e3:=Q.cell a.o.2.2.2 id;have d7:=E Q;clear Q)
     |(go_at_call 11;have hh:=a5.o;clear hh;refine(e8.o _ a5.o).mono ?_;rintro e wb ⟨rfl,kb⟩;have j0:=kb.cell a.o.1 id;have j1:=kb.cell a.o.2.1 id;have j2:=kb.cell a.o.2.2.1 id;have j3:=kb.cell a.o.2.2.2 id;have d8:=E kb;clear kb)
     |(go_at_call 11;refine(e7.o _ d7.o).mono ?_;rintro e w9 ⟨rfl,k9⟩;have g0:=k9.cell a.o.1 id;have g1:=k9.cell a.o.2.1 id;have g2:=k9.cell a.o.2.2.1 id;have g3:=k9.cell a.o.2.2.2 id;have a4:=E k9;clear k9))
    go_wp2_with fail;go_meet;exact⟨rfl,d8.o⟩
   case rest=>
    obtain⟨rfl,a8⟩:=hcut;have d9:=E a8;clear a8 c0 c1 d0 d1;go_wp2;go_ret;exact⟨rfl,z.o.tr d9.o i_⟩
theorem wH{P:Program}{w:ab}:∀{l:List (String×DataW Unit)} {k:List MemPlace},DataW.LaidVars P w l k->∀{n:String} {d:DataW Unit},(n,d)∈l->∃g t c a p,P.globalNamed n=V g/\(P.globals[g]?).map (·.type)=V t/\w.var? P n=V c/\DataW.trod (λ_=>()) P w 0 (λ_=>true) false a t c.toList=V (d,p)/\∀x∈MemPlace.row ⟨g,0,Y⟩ c.size++p,x∈k
 |[],_,_,n,d,f=>by cases f
 |(n',d')::r,k,h,n,d,f=>by
  obtain⟨g,t,c,a,p,q,u,v,y,z,A,rfl⟩:=h;rcases cT.1 f with e|f
  ·injection e with m o;subst m o;exact⟨g,t,c,a,p,u,v,y,z,λx j=>cQ.2 (.inl j)⟩
  ·obtain⟨s,K,i,b,H,B,C,D,F,G⟩:=wH A f;exact⟨s,K,i,b,H,B,C,D,F,λx j=>cQ.2 (.inr (G x j))⟩
theorem Tryz.Qu:∀u,prog.typeName? 3 u=V "*errors.errorString"->u=335:=
 typeName_ptr_named (nm:= "errors.errorString") (by kernel_rfl) (by kernel_rfl) (by decide)
theorem Tryz.NO:prog.cellsOf 353=1:=by kernel_rfl
theorem Tryz.Lo:prog.cellsOf 9=1:=by kernel_rfl
theorem eN{l:List (String×DataW Unit)}{n:String}{c:List UInt8}(h:laidMet prog l W)(t:(n,.iface "*errors.errorString" (.ptr (.agg [.lit (.string c)])))∈l)(r:prog.globalNamed n=V g)(y:(prog.globals[g]?).map (·.type)=V 159):∃(a:Addr) (s:ByteArray),W.cell? ⟨g,0,Y⟩=V (.iface 335 (.pointer (V a)))/\W.cell? a=V (.string s)/\s.data.toList=c/\∃p B,W.heap[a.block]?=V (.cells p B (0,0)):=by
 obtain⟨G,z,-,b⟩:=h;obtain⟨D,H,j,C,F,d,m,i,k,f⟩:=wH z t;obtain rfl:=tv (r.symm.trans d);obtain rfl:=tv (y.symm.trans m);obtain⟨A⟩:=j;have o:∀u v,A=[.iface u v]->Value.okWide prog W .any 0 u v:=λu v e=>by subst e;exact(b g 0 (f _ (by simp[MemPlace.row]))).2 u v (by simpa using World.var?_cell d i 0)
 obtain⟨a,s,rfl,q,x,-,w⟩:=errorString_of_trod Tryz.underlying159 Tryz.Qu Tryz.underlying335 Tryz.underlying353 rfl rfl Tryz.underlying9 Tryz.NO Tryz.Lo k o;refine⟨a,s,by simpa using World.var?_cell d i 0,q,x,?_⟩;exact(b a.block a.off (f _ (by rw[w];simp[MemPlace.row]))).1
theorem Tryz.Pr:prog.globalNamed "annals/stream.turns"=V 8:=by kernel_rfl
theorem Tryz.NV:(prog.globals[8]?).map (·.type)=V 301:=by kernel_rfl
theorem Tryz.Ex:prog.cellsOf 182=1:=by kernel_rfl
theorem Tryz.Ey:prog.cellsOf 301=16:=by kernel_rfl
theorem Tryz.Qi:prog.globalNamed "errors.errorType"=V 7:=by kernel_rfl
theorem Tryz.PJ:(prog.cutTypes.find? (·.1== "internal/reflectlite.rtype")).map (·.2)=V 274:=by kernel_rfl
theorem Tryz.PG:((List.range (465-100)).filter λt=>prog.rowNamed t [101,114,114,111,114])=[159]:=by kernel_rfl
theorem Tryz.PS:prog.types.size=465-100:=by kernel_rfl
theorem Fj{l:List (String×DataW Unit)}(h:laidMet prog l W)(k:("annals/stream.turns",Lib.tabData .u32 (xN.map λn:Nat=>(n:Int)))∈l):cM W:=by obtain⟨r,m,-,-⟩:=h;obtain⟨p,s,f,o,q,a,c,d,b,-⟩:=wH m k;obtain rfl:=tv (Tryz.Pr.symm.trans a);obtain rfl:=tv (Tryz.NV.symm.trans c);have g:=Lib.cells_of_tab Tryz.underlying301 Tryz.underlying182 Tryz.Ex Tryz.Ey b;intro i j;rw[World.var?_cell a d i,<-RW,g];unfold oD;rw[vk,vk];have e:i<xN.length:=j;rw[ec e,Sk,ec e];rfl
theorem Jt{d:DataW Unit}(k:d.handleName?=V [101,114,114,111,114])(l:d.funcsIn?=Y)(h:handlesMet prog [("errors.errorType",d)] W):W.cell? ⟨7,0,Y⟩=V (.iface 274 (.agg #[X (V ⟨16,159,Y⟩)])):=by
 have b:=h _ (QZ.2 rfl);simp only[l]at b;obtain⟨e,u,n,f,g,i,j,a⟩:=b;obtain rfl:=tv (f.symm.trans k);obtain rfl:=tv (Tryz.PJ.symm.trans g);have c:n∈(List.range (465-100)).filter λt=>prog.rowNamed t [101,114,114,111,114]:=kB.2 ⟨TN.2 (by rw[<-Tryz.PS];exact i),j⟩;rw[Tryz.PG]at c;obtain rfl:=QZ.1 c;have m:typeHandle prog 159=X (V ⟨16,159,Y⟩):=by kernel_rfl
 rw[m]at a;simpa using World.var?_cell Tryz.Qi a 0
theorem rW(h:laidMetH prog Rows.copiesUptoRow.laid W):gK W:=by
 have p:laidMet prog (Rows.copiesUptoRow.laid.drop 1) W/\handlesMet prog [("errors.errorType",Rows.laid_errors_errorType)] W:=h;obtain⟨n,u⟩:=p;obtain⟨a,s,q,o,d,r⟩:=eN n (hH (i:=1) (l:=Rows.copiesUptoRow.laid.drop 1) (a:=("annals/stream.ErrSum",.iface "*errors.errorString" (.ptr (.agg [.lit (.string [97,110,111,116,104,101,114,32,99,104,101,99,107])])))) rfl) (show prog.globalNamed "annals/stream.ErrSum"=V 0 by kernel_rfl) (by kernel_rfl);refine⟨⟨a,q,r,λg v=>?_⟩,Jt rfl rfl u,Fj n (hH (i:=0) rfl)⟩
 ·obtain rfl|rfl|rfl|rfl|rfl|rfl|rfl|rfl|rfl|rfl|rfl|rfl|rfl:g=1\/g=2\/g=3\/g=4\/g=5\/g=6\/g=9\/g=10\/g=11\/g=12\/g=13\/g=14\/g=15:=by unfold dV at v;omega
  ·obtain⟨c,t,f,b,j,k⟩:=eN n (hH (i:=9) (l:=Rows.copiesUptoRow.laid.drop 1) (a:=("annals/stream.errOther",.iface "*errors.errorString" (.ptr (.agg [.lit (.string [110,111,116,32,97,115,32,116,104,101,32,115,116,114,101,97,109,32,105,115,32,119,114,105,116,116,101,110])])))) rfl) (show prog.globalNamed "annals/stream.errOther"=V 1 by kernel_rfl) (by kernel_rfl);exact⟨c,f,λe=>by rw[e,o]at b;have m:=Value.string.inj (tv b);rw[m,j]at d;exact absurd d (by decide),k⟩
  ·obtain⟨c,t,f,b,j,k⟩:=eN n (hH (i:=10) (l:=Rows.copiesUptoRow.laid.drop 1) (a:=("annals/stream.errStates",.iface "*errors.errorString" (.ptr (.agg [.lit (.string [110,111,32,115,116,97,116,101,115,32,111,102,32,97,32,115,116,114,101,97,109])])))) rfl) (show prog.globalNamed "annals/stream.errStates"=V 2 by kernel_rfl) (by kernel_rfl);exact⟨c,f,λe=>by rw[e,o]at b;have m:=Value.string.inj (tv b);rw[m,j]at d;exact absurd d (by decide),k⟩
  ·obtain⟨c,t,f,b,j,k⟩:=eN n (hH (i:=11) (l:=Rows.copiesUptoRow.laid.drop 1) (a:=("annals/stream.errMany",.iface "*errors.errorString" (.ptr (.agg [.lit (.string [116,111,111,32,109,97,110,121,32,114,101,99,111,114,100,115])])))) rfl) (show prog.globalNamed "annals/stream.errMany"=V 3 by kernel_rfl) (by kernel_rfl);exact⟨c,f,λe=>by rw[e,o]at b;have m:=Value.string.inj (tv b);rw[m,j]at d;exact absurd d (by decide),k⟩
  ·obtain⟨c,t,f,b,j,k⟩:=eN n (hH (i:=12) (l:=Rows.copiesUptoRow.laid.drop 1) (a:=("annals/stream.errText",.iface "*errors.errorString" (.ptr (.agg [.lit (.string [110,111,32,107,101,121,44,32,111,114,32,110,111,32,118,97,108,117,101])])))) rfl) (show prog.globalNamed "annals/stream.errText"=V 4 by kernel_rfl) (by kernel_rfl);exact⟨c,f,λe=>by rw[e,o]at b;have m:=Value.string.inj (tv b);rw[m,j]at d;exact absurd d (by decide),k⟩
  ·obtain⟨c,t,f,b,j,k⟩:=eN n (hH (i:=13) (l:=Rows.copiesUptoRow.laid.drop 1) (a:=("annals/stream.errOrder",.iface "*errors.errorString" (.ptr (.agg [.lit (.string [107,101,121,115,32,116,104,97,116,32,100,111,32,110,111,116,32,114,105,115,101])])))) rfl) (show prog.globalNamed "annals/stream.errOrder"=V 5 by kernel_rfl) (by kernel_rfl);exact⟨c,f,λe=>by rw[e,o]at b;have m:=Value.string.inj (tv b);rw[m,j]at d;exact absurd d (by decide),k⟩
  ·obtain⟨c,t,f,b,j,k⟩:=eN n (hH (i:=14) (l:=Rows.copiesUptoRow.laid.drop 1) (a:=("annals/stream.errGone",.iface "*errors.errorString" (.ptr (.agg [.lit (.string [103,111,110,101,32,105,110,32,97,32,102,117,108,108,32,115,116,114,101,97,109,44,32,111,114,32,119,105,116,104,32,97,32,118,97,108,117,101])])))) rfl) (show prog.globalNamed "annals/stream.errGone"=V 6 by kernel_rfl) (by kernel_rfl);exact⟨c,f,λe=>by rw[e,o]at b;have m:=Value.string.inj (tv b);rw[m,j]at d;exact absurd d (by decide),k⟩
  ·obtain⟨c,t,f,b,j,k⟩:=eN n (hH (i:=3) (l:=Rows.copiesUptoRow.laid.drop 1) (a:=("annals/stream.errLetters",.iface "*errors.errorString" (.ptr (.agg [.lit (.string [111,116,104,101,114,32,108,101,116,116,101,114,115])])))) rfl) (show prog.globalNamed "annals/stream.errLetters"=V 9 by kernel_rfl) (by kernel_rfl);exact⟨c,f,λe=>by rw[e,o]at b;have m:=Value.string.inj (tv b);rw[m,j]at d;exact absurd d (by decide),k⟩
  ·obtain⟨c,t,f,b,j,k⟩:=eN n (hH (i:=2) (l:=Rows.copiesUptoRow.laid.drop 1) (a:=("annals/stream.errCut",.iface "*errors.errorString" (.ptr (.agg [.lit (.string [99,117,116,32,111,102,102])])))) rfl) (show prog.globalNamed "annals/stream.errCut"=V 10 by kernel_rfl) (by kernel_rfl);exact⟨c,f,λe=>by rw[e,o]at b;have m:=Value.string.inj (tv b);rw[m,j]at d;exact absurd d (by decide),k⟩
  ·obtain⟨c,t,f,b,j,k⟩:=eN n (hH (i:=4) (l:=Rows.copiesUptoRow.laid.drop 1) (a:=("annals/stream.errNumber",.iface "*errors.errorString" (.ptr (.agg [.lit (.string [110,111,32,110,117,109,98,101,114])])))) rfl) (show prog.globalNamed "annals/stream.errNumber"=V 11 by kernel_rfl) (by kernel_rfl);exact⟨c,f,λe=>by rw[e,o]at b;have m:=Value.string.inj (tv b);rw[m,j]at d;exact absurd d (by decide),k⟩
  ·obtain⟨c,t,f,b,j,k⟩:=eN n (hH (i:=6) (l:=Rows.copiesUptoRow.laid.drop 1) (a:=("annals/stream.errBlock",.iface "*errors.errorString" (.ptr (.agg [.lit (.string [97,110,111,116,104,101,114,32,99,104,101,99,107,32,111,102,32,97,32,98,108,111,99,107])])))) rfl) (show prog.globalNamed "annals/stream.errBlock"=V 12 by kernel_rfl) (by kernel_rfl);exact⟨c,f,λe=>by rw[e,o]at b;have m:=Value.string.inj (tv b);rw[m,j]at d;exact absurd d (by decide),k⟩
  ·obtain⟨c,t,f,b,j,k⟩:=eN n (hH (i:=7) (l:=Rows.copiesUptoRow.laid.drop 1) (a:=("annals/stream.errCount",.iface "*errors.errorString" (.ptr (.agg [.lit (.string [97,110,111,116,104,101,114,32,110,117,109,98,101,114,32,111,102,32,114,101,99,111,114,100,115])])))) rfl) (show prog.globalNamed "annals/stream.errCount"=V 13 by kernel_rfl) (by kernel_rfl);exact⟨c,f,λe=>by rw[e,o]at b;have m:=Value.string.inj (tv b);rw[m,j]at d;exact absurd d (by decide),k⟩
  ·obtain⟨c,t,f,b,j,k⟩:=eN n (hH (i:=8) (l:=Rows.copiesUptoRow.laid.drop 1) (a:=("annals/stream.errBehind",.iface "*errors.errorString" (.ptr (.agg [.lit (.string [115,111,109,101,116,104,105,110,103,32,98,101,104,105,110,100,32,116,104,101,32,101,110,100])])))) rfl) (show prog.globalNamed "annals/stream.errBehind"=V 14 by kernel_rfl) (by kernel_rfl);exact⟨c,f,λe=>by rw[e,o]at b;have m:=Value.string.inj (tv b);rw[m,j]at d;exact absurd d (by decide),k⟩
  ·obtain⟨c,t,f,b,j,k⟩:=eN n (hH (i:=5) (l:=Rows.copiesUptoRow.laid.drop 1) (a:=("annals/stream.errBounds",.iface "*errors.errorString" (.ptr (.agg [.lit (.string [97,32,110,117,109,98,101,114,32,111,117,116,32,111,102,32,105,116,115,32,98,111,117,110,100,115])])))) rfl) (show prog.globalNamed "annals/stream.errBounds"=V 15 by kernel_rfl) (by kernel_rfl);exact⟨c,f,λe=>by rw[e,o]at b;have m:=Value.string.inj (tv b);rw[m,j]at d;exact absurd d (by decide),k⟩
end Go.Proofs.YtjbkfdeldlajhaaGreatDoor
