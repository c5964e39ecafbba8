import Derived.Test.YtjbkfdeldlajhaaGreatDoorM23
set_option linter.unusedSimpArgs false
namespace Go.Proofs.YtjbkfdeldlajhaaGreatDoor
set_option maxRecDepth 100000
set_option maxHeartbeats 4000000
open Go.RowKit Go.Shelf Go.Proofs.Tryz
open Option renaming none->Y,some->V
open Go.Value renaming string->O,slice->J,int->Z,bool->ao
open Go renaming World->ab,Value->ax,Calls->ba,TypeId->cI
open Go.IntKind renaming i64->U
open Go.Obj renaming cells->I
open Go.Ending renaming returned->ay
variable{l:List ByteArray}{k a:Nat}{b:ByteArray}{w W:ab}
section
attribute [local go_sem] Oper.semAt_some
def iq:List ByteArray->ByteArray:=List.foldl (·++·) ⟨#[]⟩
theorem sV(l:List ByteArray)(b:ByteArray):iq (l++[b])=iq l++b:=by unfold iq;rw[Ri];rfl
theorem Iz(l:List ByteArray):∀a:ByteArray,List.foldl (·++·) a l=a++iq l:=by
 induction l with
 |nil=>intro a;exact(ByteArray.append_empty (b:=a)).symm
 |cons b l ih=>
  intro a;rw[yk,ih];unfold iq;rw[yk,ih (⟨#[]⟩++b)];have e:(⟨#[]⟩:ByteArray)++b=b:=ByteArray.empty_append;rw[e,ByteArray.append_assoc];rfl
theorem yU(b:ByteArray)(l:List ByteArray):iq (b::l)=b++iq l:=by have e:(⟨#[]⟩:ByteArray)++b=b:=ByteArray.empty_append;show List.foldl (·++·) (⟨#[]⟩++b) l=_;rw[e,Iz]
theorem ua(l:List an):iq (dZ l ((l.length+3)/4))=aU (bW (l.map an.bS)):=by
 have h:=(tH l.length l (eb _)).1;rw[<-h];have a:∀n,iq (dZ l n)=aU (fR l (List.range n)):=by
  intro n;induction n with
  |zero=>rfl
  |succ n ih=>rw[rE,sV,ih,TE,uj,<-bz];rfl
 exact a _
def bI(c:Bool)(a b:Nat)(l:List an):List ByteArray:=aU (cS c a b)::dZ l ((l.length+3)/4)++[aU (iO (lz 0 (cS c a b++bW (l.map an.bS))) l.length)]
theorem wV(c:Bool)(a b:Nat)(l:List an):iq (bI c a b l)=aU (cB ⟨c,a,b,l.map an.bS⟩):=by unfold bI;rw[sV,yU,ua,bz,bz];have:=DI c a b (l.map an.bS);rw[hO]at this;rw[this]
theorem re(W:ab)(a:Option Addr)(n c:Nat)(h:n<=c):(Builtin.append_ #[25,25] 25 #[J a n c,J Y 0 0]).run prog W=.ok (J a n c) W:=by obtain⟨g,b,d,e,f⟩:=info_parts Tryz.se;cases a<;>simp[Builtin.append_,run_underlying Tryz.underlying25,sizeOf,typeInfo,b,Builtin.lenOf,run_firstCells_none,storeCells,h]
theorem qe(h:l[k]?=V b):iq (l.take (k+1))=iq (l.take k)++b:=by obtain⟨a,rfl⟩:=ej.1 h;rw[eu a,sV]
theorem ir{l:List ByteArray}(m:Nat)(h:∀b∈l,b.size<=m):∀k,(iq (l.take k)).size<=k*m
 |0=>by simp[iq];rfl
 |k+1=>by
  cases hx:l[k]? with
  |none=>
   have a:l.length<=k:=List.getElem?_eq_none_iff.1 hx;rw[ep (by omega)];have:=ir m h k;rw[ep a]at this;rw[Sq];omega
  |some b=>
   rw[qe hx,nW,Sq];have c:=ir m h k;have d:=h b (hH hx);omega
theorem Bh{g c:Nat}(h:Row w 9 1 (J (V ⟨g,0,Y⟩) l.length c) l.length (l.flatMap eh))(e:aa n_ w W)(f:l[k]?=V b):W.cell? ⟨g,k,Y⟩=V (O b):=by
 obtain⟨a,rfl⟩:=ej.1 f;have:=(h.ai e k_).cellAt k (by omega);rw[this];have d:∀(l:List ByteArray) (k:Nat) (a:k<l.length),(l.flatMap eh)[k]?=V (O l[k]):=by
  intro l;induction l with
  |nil=>intro k a;simp at a
  |cons x l ih=>
   intro k a;cases k with
   |zero=>rfl
   |succ k=>simpa[eh]using ih k (by simpa using a)
 exact d l k a
theorem Made.MG{α:Type}{e:cI}{f:α->List ax}{i j:ab}{v d:ax}{l m:List α}(h:Made e a f w W v l)(n:aa n_ W i)(q:Row j e a d (l.length+m.length) (l.flatMap f++m.flatMap f))(o:i.grownBy j v.ownBlock)(p:d.ownBlock=v.ownBlock\/d.ownBlock=V i.heap.size):Made e a f w j d (l++m):=by
 have t:=h.keep.size;have r:=n.size;refine⟨by simpa using q,λg b=>?_,(h.keep.tr n i_).trans (aa.grown o) (λk s e=>?_)⟩
 ·rcases p with c|c
  ·exact h.own g (by rw[<-c];exact b)
  ·rw[b]at c;simp at c;omega
 ·have:=h.own k e.symm;omega
theorem DL(l:List ByteArray):(l.flatMap eh).length=l.length:=by
 induction l with
 |nil=>rfl
 |cons x l ih=>simp[eh,ih]
theorem Nj(l:List ByteArray):∀u∈l.flatMap eh,u.oneCell'=true:=by intro u a;obtain⟨x,-,b⟩:=ns.1 a;rw[QZ.1 b];rfl
theorem zJ(c:Bool)(a b:Nat)(l:List an):aU (bf 0)++aU (bf l.length)++aU (bM (iq (aU (cS c a b)::dZ l ((l.length+3)/4))++(aU (bf 0)++aU (bf l.length))).data.toList)=aU (iO (lz 0 (cS c a b++bW (l.map an.bS))) l.length):=by rw[yU,ua,bz (bf 0),bz (cS c a b),bz (cS c a b++_),iK,bz];unfold iO bM;rw[lA]
theorem kf{c:Bool}{b:Nat}{l:List an}(f:a<=1000000000)(g:b<=1000000000)(e:Small l):∀t∈aU (cS c a b)::dZ l ((l.length+3)/4),t.size<=10000:=by
 intro t d;rcases cT.1 d with rfl|d
 ·have i:=cj 8 a (by omega);have j:=cj 8 b (by omega);have h:(gg c).length=4:=by cases c<;>rfl
  rw[bn];unfold cS;simp only[hQ];omega
 ·unfold dZ at d;obtain⟨x,-,rfl⟩:=fI.1 d;unfold pj;rw[bn];exact sU (iZ e x) (lj l x)
theorem my(c:Bool)(a b:Nat)(oa:Option Addr)(s:Nat)(l:List an)(w:ab)(hr:cG w oa l)(hl:l.length<=1000)(hs:Small l)(ha:a<=1000000000)(hb:b<=1000000000):ba prog 96 #[.agg #[ao c,Z U (a:Nat),Z U (b:Nat),J oa l.length s]] w λe w'=>∃v',e=ay v'/\Made 9 1 eh w w' v' (bI c a b l):=by
 obtain⟨i0,hi,c5,c6,c7⟩:=info_parts Tryz.se;have HR:=E hr;have HL:=E hl;have S:=E hs;have HB:QS (a<=1000000000/\b<=1000000000):=⟨ha,hb⟩
 have f7:(l.length:Int)<=1000:=by omega
 have k0:=aa.alloc n_ w (I #[ao c,Z U (a:Nat),Z U (b:Nat),J oa l.length s] 28);have HX:=E (az w (I #[ao c,Z U (a:Nat),Z U (b:Nat),J oa l.length s] 28));have d9:=E k0;have o:=E (λW=>Da c a b (J oa l.length s) W ha hb ⟨_,_,_,rfl⟩);clear hr hl hs ha hb k0;go_enter func96,ntmps96;go_wp2_with fail;refine(o.o _).mono ?_;rintro e F ⟨rfl,k1⟩;clear o;obtain⟨HD,c1⟩:∃HD,HD=aU (cS c a b):=⟨_,rfl⟩
 rw[<-c1];have o:=E c1;have d6:=(k1.block _ (lg HX.o) id).trans HX.o;have b6:=E d6;have a9:=E (d9.o.tr k1 i_);clear c1 d6 k1;obtain⟨w2,a4⟩:∃w2,w2=F.alloc (I #[O HD] 9):=⟨_,rfl⟩
 have k2:aa n_ F w2:=by rw[a4];exact(aa.refl _ _).al _
 have c4:=(k2.block _ (lg b6.o) id).trans b6.o;have x3:=ae c4 3;simp at x3;rw[a4]at x3;have a3:Row w2 9 1 (J (V ⟨F.heap.size,0,Y⟩) 1 1) 1 [O HD]:=⟨rfl,.inr ⟨F.heap.size,1,#[O HD],rfl,by rw[a4];exact az F _,eb _,by unfold maxLen;omega,by simp,rfl⟩⟩
 have e0:QS (Made 9 1 eh w w2 (J (V ⟨F.heap.size,0,Y⟩) [HD].length 1) [HD]):=⟨a3,λg hg=>by cases hg;exact a9.o.size,a9.o.tr k2 i_⟩
 have T:=E c4;have e6:=E a4;have d8:=E (yD oa s l w2 ((HR.o.ai (a9.o.tr k2 i_))) HL.o S.o);clear c4 k2 a3 a4;go_wp2_with fail;rw[<-e6.o];refine d8.o.mono ?_;rintro e w3 ⟨v3,rfl,z⟩;obtain⟨A,a6⟩:∃A,A=dZ l ((l.length+3)/4):=⟨_,rfl⟩
 rw[<-a6]at z;have e9:A.length<=251:=by rw[a6,gV];have:=HL.o;omega
 have a5:=E e9;obtain⟨o3,c3,rfl,-,sa⟩:=z.row.form;have f:QS (A=dZ l ((l.length+3)/4)):=a6;have b1:=E z;have b7:QS (∀W,aa n_ w3 W->W.cell? ⟨w.heap.size,3,Y⟩=V (J oa l.length s)):=λW k=>by have:=ae ((k.block _ (kz (lg T.o) z.keep.size) id).trans ((z.keep.block _ (lg T.o) id).trans T.o)) 3;simpa using this
 have c9:=E ((z.keep.block _ (lg T.o) id).trans T.o);obtain⟨L,D⟩:∃L,L=HD::A:=⟨_,rfl⟩
 have N:=E (e0.o.ai z.keep);clear a6 z x3;cases o3 with
 |none=>
  have a7:A.length=0/\c3=0:=by
   rcases b1.o.row.2 with⟨e,e'⟩|⟨g,c',e7,e,-⟩
   ·injection e with e1 e2 e3;exact⟨e',e3⟩
   ·injection e with e1 _ _;cases e1
  obtain⟨a7,rfl⟩:=a7;have d3:A=[]:=hU a7;have d5:L.length=1:=by rw[D,d3];rfl
  have f5:(Builtin.append_ #[25,25] 25 #[J (V ⟨F.heap.size,0,Y⟩) 1 1,J Y 0 0]).run prog w3=.ok (J (V ⟨F.heap.size,0,Y⟩) L.length 1) w3:=by rw[d5];exact re w3 (V ⟨F.heap.size,0,Y⟩) 1 1 (eb _)
  have a1:Made 9 1 eh w w3 (J (V ⟨F.heap.size,0,Y⟩) L.length 1) L:=by rw[D,d3];exact N.o
  rw[a7];have c8:=E d5;go_wp2_with fail;have Q:=E a1;have C:L.length<=300:=by rw[D,fN];have:=a5.o;omega
  have B:QS (∀k,k<=L.length->(iq (L.take k)).size<=3000000):=λk hk=>by
   have h1:=ir (l:=L) 10000 (by rw[D,o.o,f.o];exact kf HB.o.1 HB.o.2 S.o) k
   have:k*10000<=300*10000:=xw _ (by omega)
   omega
  have R:QS (∀t∈L,t.size<=10000):=by show∀t∈L,_;rw[D,o.o,f.o];exact kf HB.o.1 HB.o.2 S.o
  have e8:(L.length:Int)<=300:=by omega
  have M:=E D;clear a1 D C;go_loopw [4,5] (λsv i wr=>∃k:Nat,k<=L.length/\sv=O (iq (L.take k))/\i=Z U k/\aa n_ w3 wr) (λ_ i _=>L.length-(intOf i).toNat)
  case atStart=>exact⟨0,eL _,rfl,rfl,aa.refl _ _⟩
  case round=>
   obtain⟨k,hk,rfl,rfl,kr⟩:=hrel;have r:=E kr;have f0:(k:Int)<=L.length:=by omega
   clear kr;by_cases x:k<L.length
   ·obtain⟨t,ht⟩:∃t,L[k]?=V t:=⟨L[k],ec x⟩
    have c0:=Bh Q.o.row r.o ht;have s1:=B.o k hk;have s2:=R.o t (hH ht);have b4:=E (qe ht);have d4:(k:Int)<L.length:=by omega
    generalize iq (L.take k)=ct at*;have d2:∀W,(Op.stringOp .add ct t).run prog W=.ok (O (ct++t)) W:=λW=>run_string_add_sum W _ _ (by omega);have K:=E x;clear ht s1 s2 x hk;go_wp2;exact⟨⟨k+1,K.o,by rw[b4.o],by go_num,r.o⟩,by simp only[intOf];have:=K.o;omega⟩
   ·have f1:¬((k:Int)<L.length):=by omega
    have e:L.take k=L:=ep (by omega);have s1:=B.o k hk;rw[e]at s1⊢;have b2:QS (∀W,ba prog 151 #[Z U 0] W λe w'=>e=ay (O (aU (bf 0)))/\aa n_ W w'):=λW=>di 1 0 W (by omega) (by omega);have b3:=E (λW=>di 1 l.length W (by have:=HL.o;omega) (by have:=HL.o;omega));have s2:(aU (bf 0)).size<=2:=by rw[bn];exact cj 1 _ (by omega)
    have s3:(aU (bf l.length)).size<=2:=by rw[bn];exact cj 1 _ (by have:=HL.o;omega)
    have G:=E (λW=>iy (iq L++(aU (bf 0)++aU (bf l.length))) W (by simp only[nW];unfold maxLen;omega));have s4:(aU (bM (iq L++(aU (bf 0)++aU (bf l.length))).data.toList)).size=4:=by rw[bn];rfl
    have b5:QS (aU (bf 0)++aU (bf l.length)++aU (bM (iq L++(aU (bf 0)++aU (bf l.length))).data.toList)=aU (iO (lz 0 (cS c a b++bW (l.map an.bS))) l.length)):=by show _=_;rw[M.o,o.o,f.o];exact zJ c a b l
    generalize aU (bM (iq L++(aU (bf 0)++aU (bf l.length))).data.toList)=CK at*;generalize aU (bf 0)=N0 at*;generalize aU (bf l.length)=NL at*;generalize hct:iq L=ct at*;have f2:∀W,(Op.stringOp .add N0 NL).run prog W=.ok (O (N0++NL)) W:=λW=>run_string_add_sum W _ _ (by omega);have f3:∀W,(Op.stringOp .add ct (N0++NL)).run prog W=.ok (O (ct++(N0++NL))) W:=λW=>run_string_add_sum W _ _ (by simp only[nW];omega);have f4:∀W,(Op.stringOp .add (N0++NL) CK).run prog W=.ok (O (N0++NL++CK)) W:=λW=>run_string_add_sum W _ _ (by simp only[nW];omega);have xc:=b7.o wr (r.o);have b0:QS (L.length<=300):=by show _<=_;omega
    clear e s1 s2 s3 s4 x hk B R hct;go_wp2_with fail;go_region_held3(λW=>W.cell? ⟨w.heap.size,3,Y⟩=V (J oa l.length s)) (go_keep) (first
     |(go_at_call 151;have hh:=p.o;clear hh;refine(b3.o _).mono ?_;rintro e w6 ⟨rfl,k6⟩;have H:=E (p.o.tr k6 i_);have xe:=b7.o _ (H.o);clear k6)
     |(go_at_call 151;refine(b2.o _).mono ?_;rintro e w5 ⟨rfl,k5⟩;have p:=E (r.o.dr.tr k5 i_);have xd:=b7.o _ (p.o);clear k5))
    clear xc xd xe;go_wp2_with fail;refine(G.o _).mono ?_;rintro e w7 ⟨rfl,k7⟩;have P:=E ((Q.o.ai H.o).ai k7);clear k7 G;go_wp2_with(first|(at_builtin;go_must(refine aL _ rfl _ _ 25 rfl 9 i0 _ 1 16 Tryz.underlying25 hi c5 c6 c7 rfl (J (V ⟨F.heap.size,0,Y⟩) 1 1) 1 (L.flatMap eh) rfl (by have hq:=P.o.row.ai (aa.alloc n_ w7 (I #[O (N0++NL++CK)] 9)) k_;rw[c8.o]at hq;exact hq) ⟨w7.heap.size,0,Y⟩ 1 1 [O (N0++NL++CK)] rfl rfl (br _ #[O (N0++NL++CK)] _) (by simp[Value.oneCell']) (by unfold maxLen;omega) (by omega) ?_;intro v' w8 d q _ a2;obtain⟨g',d1,rfl⟩:=d.succ;have HN:=E (P.o.push (a:=N0++NL++CK) (aa.alloc n_ _ _) (by rw[c8.o];exact d) q a2);clear d q a2))|fail)
    go_ret;refine⟨_,rfl,?_⟩;have b9:bI c a b l=L++[N0++NL++CK]:=by unfold bI;rw[b5.o,M.o,o.o,f.o]
    rw[b9];exact HN.o.slice (by simp)
 |some ad=>
  obtain⟨g3,rfl⟩:∃g,ad=⟨g,0,Y⟩:=by
   rcases b1.o.row.2 with⟨e,e'⟩|⟨g,c',e7,e,-⟩
   ·injection e with e1 _ _;cases e1
   ·injection e with e1 _ _;exact⟨g,by injection e1⟩
  have e5:QS (∀j u,(A.flatMap eh)[j]?=V u->w3.cell? (Addr.add ⟨g3,0,Y⟩ j)=V u):=λj u hj=>by
   rw[Addr.add_lit,tA];have f6:j<A.length:=by have:=(ej.1 hj).1;rw[DL]at this;exact this
   rw[b1.o.row.cellAt j (by omega)];exact hj
  go_wp2_with(first|(at_builtin;go_must(refine aL _ rfl _ _ 25 rfl 9 i0 _ 1 16 Tryz.underlying25 hi c5 c6 c7 rfl (J (V ⟨F.heap.size,0,Y⟩) 1 1) 1 _ rfl N.o.row ⟨g3,0,Y⟩ A.length c3 (A.flatMap eh) rfl (by rw[DL];omega) e5.o (Nj A) (by have:=a5.o;unfold maxLen;omega) (by have:=a5.o;omega) ?_;intro v4 w4 y v _ a8;obtain⟨g4,b8,rfl⟩:=Row.succ (n:=A.length) (by rw[Nat.add_comm]at y;exact y);have e4:=E (N.o.MG (m:=A) (aa.refl _ _) y v a8);have d7:=((aa.grown v).block w.heap.size (lg c9.o) (λe=>by have e':V w.heap.size=V F.heap.size:=e;have h9:=(lg b6.o);simp at e';omega)).trans c9.o;have d0:=E d7;clear y v a8 d7))|fail)
  have a0:QS (∀W,aa n_ w4 W->W.cell? ⟨w.heap.size,3,Y⟩=V (J oa l.length s)):=λW k=>by have:=ae ((k.block _ (lg d0.o) id).trans d0.o) 3;simpa using this
  have c2:A.length+1=L.length:=by rw[D,fN]
  have a1:Made 9 1 eh w w4 (J (V ⟨g4,0,Y⟩) L.length b8) L:=by have h9:=e4.o.slice (v':=J (V ⟨g4,0,Y⟩) L.length b8) (by rw[<-c2]);have e2:[HD]++A=L:=D.symm;rw[e2]at h9;exact h9
  rw[c2];clear c2;have Q:=E a1;have C:L.length<=300:=by rw[D,fN];have:=a5.o;omega
  have B:QS (∀k,k<=L.length->(iq (L.take k)).size<=3000000):=λk hk=>by
   have h1:=ir (l:=L) 10000 (by rw[D,o.o,f.o];exact kf HB.o.1 HB.o.2 S.o) k
   have:k*10000<=300*10000:=xw _ (by omega)
   omega
  have R:QS (∀t∈L,t.size<=10000):=by show∀t∈L,_;rw[D,o.o,f.o];exact kf HB.o.1 HB.o.2 S.o
  have e8:(L.length:Int)<=300:=by omega
  have M:=E D;clear a1 D C;go_loopw [4,5] (λsv i wr=>∃k:Nat,k<=L.length/\sv=O (iq (L.take k))/\i=Z U k/\aa n_ w4 wr) (λ_ i _=>L.length-(intOf i).toNat)
  case atStart=>exact⟨0,eL _,rfl,rfl,aa.refl _ _⟩
  case round=>
   obtain⟨k,hk,rfl,rfl,kr⟩:=hrel;have r:=E kr;have f0:(k:Int)<=L.length:=by omega
   clear kr;by_cases x:k<L.length
   ·obtain⟨t,ht⟩:∃t,L[k]?=V t:=⟨L[k],ec x⟩
    have c0:=Bh Q.o.row r.o ht;have s1:=B.o k hk;have s2:=R.o t (hH ht);have b4:=E (qe ht);have d4:(k:Int)<L.length:=by omega
    generalize iq (L.take k)=ct at*;have d2:∀W,(Op.stringOp .add ct t).run prog W=.ok (O (ct++t)) W:=λW=>run_string_add_sum W _ _ (by omega);have K:=E x;clear ht s1 s2 x hk;go_wp2;exact⟨⟨k+1,K.o,by rw[b4.o],by go_num,r.o⟩,by simp only[intOf];have:=K.o;omega⟩
   ·have f1:¬((k:Int)<L.length):=by omega
    have e:L.take k=L:=ep (by omega);have s1:=B.o k hk;rw[e]at s1⊢;have b2:QS (∀W,ba prog 151 #[Z U 0] W λe w'=>e=ay (O (aU (bf 0)))/\aa n_ W w'):=λW=>di 1 0 W (by omega) (by omega);have b3:=E (λW=>di 1 l.length W (by have:=HL.o;omega) (by have:=HL.o;omega));have s2:(aU (bf 0)).size<=2:=by rw[bn];exact cj 1 _ (by omega)
    have s3:(aU (bf l.length)).size<=2:=by rw[bn];exact cj 1 _ (by have:=HL.o;omega)
    have G:=E (λW=>iy (iq L++(aU (bf 0)++aU (bf l.length))) W (by simp only[nW];unfold maxLen;omega));have s4:(aU (bM (iq L++(aU (bf 0)++aU (bf l.length))).data.toList)).size=4:=by rw[bn];rfl
    have b5:QS (aU (bf 0)++aU (bf l.length)++aU (bM (iq L++(aU (bf 0)++aU (bf l.length))).data.toList)=aU (iO (lz 0 (cS c a b++bW (l.map an.bS))) l.length)):=by show _=_;rw[M.o,o.o,f.o];exact zJ c a b l
    generalize aU (bM (iq L++(aU (bf 0)++aU (bf l.length))).data.toList)=CK at*;generalize aU (bf 0)=N0 at*;generalize aU (bf l.length)=NL at*;generalize hct:iq L=ct at*;have f2:∀W,(Op.stringOp .add N0 NL).run prog W=.ok (O (N0++NL)) W:=λW=>run_string_add_sum W _ _ (by omega);have f3:∀W,(Op.stringOp .add ct (N0++NL)).run prog W=.ok (O (ct++(N0++NL))) W:=λW=>run_string_add_sum W _ _ (by simp only[nW];omega);have f4:∀W,(Op.stringOp .add (N0++NL) CK).run prog W=.ok (O (N0++NL++CK)) W:=λW=>run_string_add_sum W _ _ (by simp only[nW];omega);have xc:=a0.o wr r.o;have b0:QS (L.length<=300):=by show _<=_;omega
    clear e s1 s2 s3 s4 x hk B R hct;go_wp2_with fail;go_region_held3(λW=>W.cell? ⟨w.heap.size,3,Y⟩=V (J oa l.length s)) (go_keep) (first
     |(go_at_call 151;have hh:=p.o;clear hh;refine(b3.o _).mono ?_;rintro e w6 ⟨rfl,k6⟩;have H:=E (p.o.tr k6 i_);have xe:=a0.o _ H.o;clear k6)
     |(go_at_call 151;refine(b2.o _).mono ?_;rintro e w5 ⟨rfl,k5⟩;have p:=E (r.o.dr.tr k5 i_);have xd:=a0.o _ p.o;clear k5))
    clear xc xd xe;go_wp2_with fail;refine(G.o _).mono ?_;rintro e w7 ⟨rfl,k7⟩;have P:=E ((Q.o.ai H.o).ai k7);clear k7 G;go_wp2_with(first|(at_builtin;go_must(refine aL _ rfl _ _ 25 rfl 9 i0 _ 1 16 Tryz.underlying25 hi c5 c6 c7 rfl (J (V ⟨g4,0,Y⟩) L.length b8) L.length _ rfl (P.o.row.ai (aa.alloc n_ _ _) k_) ⟨w7.heap.size,0,Y⟩ 1 1 [O (N0++NL++CK)] rfl rfl (br _ #[O (N0++NL++CK)] _) (by simp[Value.oneCell']) (by have:=b0.o;unfold maxLen;omega) (by have:=b0.o;omega) ?_;intro v' w8 d q _ a2;obtain⟨g',d1,rfl⟩:=d.succ;have HN:=E (P.o.push (a:=N0++NL++CK) (aa.alloc n_ _ _) d q a2);clear d q a2))|fail)
    go_ret;refine⟨_,rfl,?_⟩;have b9:bI c a b l=L++[N0++NL++CK]:=by unfold bI;rw[b5.o,M.o,o.o,f.o]
    rw[b9];exact HN.o.slice (by simp)
end
end Go.Proofs.YtjbkfdeldlajhaaGreatDoor
