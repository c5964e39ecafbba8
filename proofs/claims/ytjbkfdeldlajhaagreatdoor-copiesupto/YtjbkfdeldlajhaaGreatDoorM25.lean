import Derived.Test.YtjbkfdeldlajhaaGreatDoorM24
set_option linter.unusedSimpArgs false
namespace Go.Proofs.YtjbkfdeldlajhaaGreatDoor
set_option maxRecDepth 100000
set_option maxHeartbeats 4000000
open Go.RowKit Go.Shelf Go.Proofs.Tryz
open Option renaming none->Y,some->V
open Go.Value renaming int->Z,string->O,slice->J,bool->ao
open Go.IntKind renaming i64->U
open Go.Obj renaming cells->I
open Go renaming World->ab,Calls->ba,TypeId->cI
open Go.Ending renaming returned->ay
section
attribute [local go_sem] Oper.semAt_some
theorem tN{P:Program}{t:cI}(x y:ByteArray)(w:ab):(binOp BinOp.geq t (O x) (O y)).run P w=.ok (ao (!de x y)) w:=by simp[binOp,Op.stringOp,de]
theorem zj{s:ByteArray}(h:dw s=true):de ⟨#[]⟩ s=true:=by
 rw[jQ];have a:1<=s.size:=by simp[dw]at h;omega
 show([]:List UInt8)<s.data.toList;cases hd:s.data.toList with
 |nil=>have:s.data.toList.length=s.size:=rfl;rw[hd]at this;simp at this;omega
 |cons x t=>exact List.nil_lt_cons x t
theorem FO(q:Bool)(a b:Int)(oa:Option Addr)(P:Nat)(l:List an)(w:ab)(hr:cG w oa l)(hl:l.length<=1000)(hs:∀r∈l,r.key.size<=maxLen/\r.value.size<=maxLen)(x:kN q a b=true):ba prog 95 #[.agg #[ao q,Z U a,Z U b,J oa l.length P]] w λe w'=>e=ay (ao (cC q a b l))/\aa n_ w w':=by
 have HR:=E hr;have HS:=E hs;have HL:=E hl;have b7:(l.length:Int)<=1000:=by omega
 have HJ:QS (cC q a b l=oL q l l.length):=by show _=_;unfold cC;rw[x,mI hl];rfl
 have R:=E (λk (hk:k<l.length) (h:jv q (bL l k) l[k]=false)=>CP hk h a b);have a9:(0<=a/\a<=1000000000)/\(0<=b/\b<=1000000000)/\(q=true->a=0)/\(q=false->a<b):=by
  unfold kN gB at x;simp only[ss,tT]at x;refine⟨x.1.1,x.1.2,λe=>?_,λe=>?_⟩
  ·have:=x.2;rw[fy e]at this;simpa using this
  ·have:=x.2;rw[el (by simp[e])]at this;simpa using this
 generalize cC q a b l=jb at*;obtain⟨⟨a0,a1⟩,⟨b0,b1⟩,Q,a2⟩:=a9;have T:q=true->a=0:=Q;clear hr hs hl x;have b6:=E (az w (I #[ao q,Z U a,Z U b,J oa l.length P] 28));go_enter func95,ntmps95;cases q with
 |true=>
  obtain rfl:=Q rfl;go_wp2_with fail;clear Q a2 T;go_loopw [3] (λi wr=>∃k:Nat,k<=l.length/\i=Z U k/\oL true l k=true/\aa n_ (w.alloc (I #[ao true,Z U 0,Z U b,J oa l.length P] 28)) wr) (λi _=>l.length-(intOf i).toNat)
  case atStart=>exact⟨0,eL _,rfl,rfl,aa.refl _ _⟩
  case round=>
   obtain⟨k,hk,rfl,C,y⟩:=hrel;have v:aa n_ w wr:=((aa.refl n_ w).al _).tr y i_;have D:=bO y id;have x0:=ae D 0;have x3:=ae D 3;simp at x0 x3;have b2:(k:Int)<=l.length:=by omega
   by_cases d:k<l.length
   ·obtain⟨g,a3,rfl,r0,r1,r2⟩:=HR.o.ai v k d;obtain⟨m1,m2⟩:=HS.o l[k] (nE d);have m:=E (λW=>wF l[k].key W m1);have n:=E (λW=>sg l[k].value W m2);have c:QS (jv true (bL l k) l[k]=(dw l[k].key&&fM l[k].value&&de (bL l k) l[k].key&&!(l[k].aO&&(true||!l[k].value.toList.isEmpty)))):=E rfl;have z:=E (R.o k d);have K:QS (jv true (bL l k) l[k]=true->oL true l (k+1)=true):=λh=>by rw[kX d,C,h];rfl
    have f:QS (k=0\/∃p A,k=p+1/\bL l k=A/\wr.cell? ⟨g,a3+p*3,Y⟩=V (O A)):=by
     rcases Ry k with e|e
     ·exact .inl e
     ·obtain⟨g2,a8,e2,c0,-,-⟩:=HR.o.ai v (k-1) (by omega);simp only[vv,Addr.mk.injEq]at e2;obtain⟨rfl,rfl,-⟩:=e2;refine .inr ⟨k-1,l[k-1].key,by omega,?_,c0⟩;have:=jy (l:=l) (k:=k-1) (by omega);rw[show k-1+1=k by omega]at this;exact this
    have o:QS (k=0->dw l[k].key=true->de (bL l k) l[k].key=true):=λe h=>by
     have:bL l k=⟨#[]⟩:=by rw[e];rfl
     rw[this];exact zj h
    generalize jv true (bL l k) l[k]=okr at*;generalize bL l k=ah at*;generalize l[k].key=B at*;generalize l[k].value=rv at*;generalize l[k].aO=rg at*;have H:=E y;have t:=E v;have s:=E d;have a5:(k:Int)<l.length:=by omega
    clear y v m1 m2 C D d hk;have N:=aa.alloc n_ wr (I #[O B,O rv,ao rg] 70);have b4:=N.cell x0 id;have b5:=N.cell x3 id;cases hkb:dw B with
    |false=>
     rw[hkb]at m c;go_wp2_with(first|(go_at_call 69;go_must(refine(m.o _).mono ?_;rintro e u ⟨rfl,rfl⟩))|(go_at_call 73;go_must(refine(n.o _).mono ?_;rintro e u ⟨rfl,rfl⟩)))
     go_ret;exact⟨cR (z.o (by rw[c.o];simp)).symm,t.o.al _⟩
    |true=>
     rw[hkb]at m c o;cases hvb:fM rv with
     |false=>
      rw[hvb]at n c;go_wp2_with(first|(go_at_call 69;go_must(refine(m.o _).mono ?_;rintro e u ⟨rfl,rfl⟩))|(go_at_call 73;go_must(refine(n.o _).mono ?_;rintro e u ⟨rfl,rfl⟩)))
      go_ret;exact⟨cR (z.o (by rw[c.o];simp)).symm,t.o.al _⟩
     |true=>
      rw[hvb]at n c;cases rg with
      |true=>
       go_wp2_with(first|(go_at_call 69;go_must(refine(m.o _).mono ?_;rintro e u ⟨rfl,rfl⟩))|(go_at_call 73;go_must(refine(n.o _).mono ?_;rintro e u ⟨rfl,rfl⟩)))
       go_ret;exact⟨cR (z.o (by rw[c.o];simp)).symm,t.o.al _⟩
      |false=>
       rcases f.o with L|⟨p,A,L,G,S⟩
       ·have M:¬((k:Int)>0):=by omega
        have dk:decide (0<k)=false:=kg (by omega);have j:=E (o.o L rfl);clear L f o;go_wp2_with(first|(go_at_call 69;go_must(refine(m.o _).mono ?_;rintro e u ⟨rfl,rfl⟩))|(go_at_call 73;go_must(refine(n.o _).mono ?_;rintro e u ⟨rfl,rfl⟩)))
        go_quiet(fail);go_wp2;exact⟨⟨k+1,s.o,by go_num,K.o (by rw[c.o,j.o];simp),(H.o.al _).lU _⟩,by simp only[intOf];have:=s.o;omega⟩
       ·have M:(k:Int)>0:=by omega
        have dk:decide (0<k)=true:=mI (by omega);have a7:IntKind.i64.wrap ((k:Int)-1)=(p:Int):=by rw[IntWalk.i64_in ((k:Int)-1) ⟨by omega,by omega⟩];omega
        have a6:(p:Int)<l.length:=by have:=s.o;omega
        have a4:=N.cell S id;have F:∀W,(binOp BinOp.geq 9 (O A) (O B)).run prog W=.ok (ao (!de A B)) W:=λW=>tN _ _ _;have j:QS (de ah B=de A B):=by show _=_;rw[G]
        clear L S G f o;cases hb3:de A B with
        |true=>
         rw[hb3]at F j;go_wp2_with(first|(go_at_call 69;go_must(refine(m.o _).mono ?_;rintro e u ⟨rfl,rfl⟩))|(go_at_call 73;go_must(refine(n.o _).mono ?_;rintro e u ⟨rfl,rfl⟩)))
         go_quiet(fail);go_wp2;exact⟨⟨k+1,s.o,by go_num,K.o (by rw[c.o,j.o];simp),(H.o.al _).lU _⟩,by simp only[intOf];have:=s.o;omega⟩
        |false=>
         rw[hb3]at F j;go_wp2_with(first|(go_at_call 69;go_must(refine(m.o _).mono ?_;rintro e u ⟨rfl,rfl⟩))|(go_at_call 73;go_must(refine(n.o _).mono ?_;rintro e u ⟨rfl,rfl⟩)))
         go_quiet(fail);go_wp2;go_ret;exact⟨cR (z.o (by rw[c.o,j.o];simp)).symm,(t.o.al _).lU _⟩
   ·have e:k=l.length:=by omega
    have HB:QS (jb=true):=by show _=_;rw[HJ.o,<-e];exact C
    have t:=E v;have b3:¬((k:Int)<l.length):=by omega
    clear y C v D e d hk x0;go_wp2;go_ret;exact⟨cR HB.o.symm,t.o⟩
 |false=>
  have b8:=a2 rfl;go_wp2_with fail;clear Q a2 T;go_loopw [3] (λi wr=>∃k:Nat,k<=l.length/\i=Z U k/\oL false l k=true/\aa n_ (w.alloc (I #[ao false,Z U a,Z U b,J oa l.length P] 28)) wr) (λi _=>l.length-(intOf i).toNat)
  case atStart=>exact⟨0,eL _,rfl,rfl,aa.refl _ _⟩
  case round=>
   obtain⟨k,hk,rfl,C,y⟩:=hrel;have v:aa n_ w wr:=((aa.refl n_ w).al _).tr y i_;have D:=bO y id;have x0:=ae D 0;have x3:=ae D 3;simp at x0 x3;have b2:(k:Int)<=l.length:=by omega
   by_cases d:k<l.length
   ·obtain⟨g,a3,rfl,r0,r1,r2⟩:=HR.o.ai v k d;obtain⟨m1,m2⟩:=HS.o l[k] (nE d);have m:=E (λW=>wF l[k].key W m1);have n:=E (λW=>sg l[k].value W m2);have c:QS (jv false (bL l k) l[k]=(dw l[k].key&&fM l[k].value&&de (bL l k) l[k].key&&!(l[k].aO&&(false||!l[k].value.toList.isEmpty)))):=E rfl;have z:=E (R.o k d);have K:QS (jv false (bL l k) l[k]=true->oL false l (k+1)=true):=λh=>by rw[kX d,C,h];rfl
    have f:QS (k=0\/∃p A,k=p+1/\bL l k=A/\wr.cell? ⟨g,a3+p*3,Y⟩=V (O A)):=by
     rcases Ry k with e|e
     ·exact .inl e
     ·obtain⟨g2,a8,e2,c0,-,-⟩:=HR.o.ai v (k-1) (by omega);simp only[vv,Addr.mk.injEq]at e2;obtain⟨rfl,rfl,-⟩:=e2;refine .inr ⟨k-1,l[k-1].key,by omega,?_,c0⟩;have:=jy (l:=l) (k:=k-1) (by omega);rw[show k-1+1=k by omega]at this;exact this
    have o:QS (k=0->dw l[k].key=true->de (bL l k) l[k].key=true):=λe h=>by
     have:bL l k=⟨#[]⟩:=by rw[e];rfl
     rw[this];exact zj h
    generalize jv false (bL l k) l[k]=okr at*;generalize bL l k=ah at*;generalize l[k].key=B at*;generalize l[k].value=rv at*;generalize l[k].aO=rg at*;have H:=E y;have t:=E v;have s:=E d;have a5:(k:Int)<l.length:=by omega
    clear y v m1 m2 C D d hk;have N:=aa.alloc n_ wr (I #[O B,O rv,ao rg] 70);have b4:=N.cell x0 id;have b5:=N.cell x3 id;cases hkb:dw B with
    |false=>
     rw[hkb]at m c;go_wp2_with(first|(go_at_call 69;go_must(refine(m.o _).mono ?_;rintro e u ⟨rfl,rfl⟩))|(go_at_call 73;go_must(refine(n.o _).mono ?_;rintro e u ⟨rfl,rfl⟩)))
     go_ret;exact⟨cR (z.o (by rw[c.o];simp)).symm,t.o.al _⟩
    |true=>
     rw[hkb]at m c o;cases hvb:fM rv with
     |false=>
      rw[hvb]at n c;go_wp2_with(first|(go_at_call 69;go_must(refine(m.o _).mono ?_;rintro e u ⟨rfl,rfl⟩))|(go_at_call 73;go_must(refine(n.o _).mono ?_;rintro e u ⟨rfl,rfl⟩)))
      go_ret;exact⟨cR (z.o (by rw[c.o];simp)).symm,t.o.al _⟩
     |true=>
      rw[hvb]at n c;cases rg with
      |true=>
       cases hb4:rv.toList.isEmpty with
       |false=>
        go_wp2_with(first|(go_at_call 69;go_must(refine(m.o _).mono ?_;rintro e u ⟨rfl,rfl⟩))|(go_at_call 73;go_must(refine(n.o _).mono ?_;rintro e u ⟨rfl,rfl⟩)))
        go_ret;exact⟨cR (z.o (by rw[c.o,hb4];simp)).symm,t.o.al _⟩
       |true=>
        rcases f.o with L|⟨p,A,L,G,S⟩
        ·have M:¬((k:Int)>0):=by omega
         have dk:decide (0<k)=false:=kg (by omega);have j:=E (o.o L rfl);clear L f o;go_wp2_with(first|(go_at_call 69;go_must(refine(m.o _).mono ?_;rintro e u ⟨rfl,rfl⟩))|(go_at_call 73;go_must(refine(n.o _).mono ?_;rintro e u ⟨rfl,rfl⟩)))
         go_quiet(fail);go_wp2;exact⟨⟨k+1,s.o,by go_num,K.o (by rw[c.o,j.o,hb4];simp),(H.o.al _).lU _⟩,by simp only[intOf];have:=s.o;omega⟩
        ·have M:(k:Int)>0:=by omega
         have dk:decide (0<k)=true:=mI (by omega);have a7:IntKind.i64.wrap ((k:Int)-1)=(p:Int):=by rw[IntWalk.i64_in ((k:Int)-1) ⟨by omega,by omega⟩];omega
         have a6:(p:Int)<l.length:=by have:=s.o;omega
         have a4:=N.cell S id;have F:∀W,(binOp BinOp.geq 9 (O A) (O B)).run prog W=.ok (ao (!de A B)) W:=λW=>tN _ _ _;have j:QS (de ah B=de A B):=by show _=_;rw[G]
         clear L S G f o;cases hb3:de A B with
         |true=>
          rw[hb3]at F j;go_wp2_with(first|(go_at_call 69;go_must(refine(m.o _).mono ?_;rintro e u ⟨rfl,rfl⟩))|(go_at_call 73;go_must(refine(n.o _).mono ?_;rintro e u ⟨rfl,rfl⟩)))
          go_quiet(fail);go_wp2;exact⟨⟨k+1,s.o,by go_num,K.o (by rw[c.o,j.o,hb4];simp),(H.o.al _).lU _⟩,by simp only[intOf];have:=s.o;omega⟩
         |false=>
          rw[hb3]at F j;go_wp2_with(first|(go_at_call 69;go_must(refine(m.o _).mono ?_;rintro e u ⟨rfl,rfl⟩))|(go_at_call 73;go_must(refine(n.o _).mono ?_;rintro e u ⟨rfl,rfl⟩)))
          go_quiet(fail);go_wp2;go_ret;exact⟨cR (z.o (by rw[c.o,j.o,hb4];simp)).symm,(t.o.al _).lU _⟩
      |false=>
       rcases f.o with L|⟨p,A,L,G,S⟩
       ·have M:¬((k:Int)>0):=by omega
        have dk:decide (0<k)=false:=kg (by omega);have j:=E (o.o L rfl);clear L f o;go_wp2_with(first|(go_at_call 69;go_must(refine(m.o _).mono ?_;rintro e u ⟨rfl,rfl⟩))|(go_at_call 73;go_must(refine(n.o _).mono ?_;rintro e u ⟨rfl,rfl⟩)))
        go_quiet(fail);go_wp2;exact⟨⟨k+1,s.o,by go_num,K.o (by rw[c.o,j.o];simp),(H.o.al _).lU _⟩,by simp only[intOf];have:=s.o;omega⟩
       ·have M:(k:Int)>0:=by omega
        have dk:decide (0<k)=true:=mI (by omega);have a7:IntKind.i64.wrap ((k:Int)-1)=(p:Int):=by rw[IntWalk.i64_in ((k:Int)-1) ⟨by omega,by omega⟩];omega
        have a6:(p:Int)<l.length:=by have:=s.o;omega
        have a4:=N.cell S id;have F:∀W,(binOp BinOp.geq 9 (O A) (O B)).run prog W=.ok (ao (!de A B)) W:=λW=>tN _ _ _;have j:QS (de ah B=de A B):=by show _=_;rw[G]
        clear L S G f o;cases hb3:de A B with
        |true=>
         rw[hb3]at F j;go_wp2_with(first|(go_at_call 69;go_must(refine(m.o _).mono ?_;rintro e u ⟨rfl,rfl⟩))|(go_at_call 73;go_must(refine(n.o _).mono ?_;rintro e u ⟨rfl,rfl⟩)))
         go_quiet(fail);go_wp2;exact⟨⟨k+1,s.o,by go_num,K.o (by rw[c.o,j.o];simp),(H.o.al _).lU _⟩,by simp only[intOf];have:=s.o;omega⟩
        |false=>
         rw[hb3]at F j;go_wp2_with(first|(go_at_call 69;go_must(refine(m.o _).mono ?_;rintro e u ⟨rfl,rfl⟩))|(go_at_call 73;go_must(refine(n.o _).mono ?_;rintro e u ⟨rfl,rfl⟩)))
         go_quiet(fail);go_wp2;go_ret;exact⟨cR (z.o (by rw[c.o,j.o];simp)).symm,(t.o.al _).lU _⟩
   ·have e:k=l.length:=by omega
    have HB:QS (jb=true):=by show _=_;rw[HJ.o,<-e];exact C
    have t:=E v;have b3:¬((k:Int)<l.length):=by omega
    clear y C v D e d hk x0;go_wp2;go_ret;exact⟨cR HB.o.symm,t.o⟩
end
end Go.Proofs.YtjbkfdeldlajhaaGreatDoor
