import Derived.Test.YtnjiinbhbjpfkaaGreatDoorTU
import Derived.Test.YtnjiinbhbjpfkaaGreatDoorTa
set_option maxRecDepth 100000
set_option maxHeartbeats 0
set_option linter.all false
namespace Go.Proofs.YtnjiinbhbjpfkaaGreatDoor
open Go.RowKit Go.Proofs.Tryz
section
variable {p:Nat}{s:ByteArray}{w:aa}
theorem yU(r f k:Nat)(s:ByteArray)(q:Nat)(h:M.tk s q 0 (M.ko r f k)=true):M.tk s q 0 (M.Df r f k)=true:=by
 obtain⟨H,_,e⟩:=M.gU h;have G:M.bt s q<=M.Df r f k:=by
  have J:=M.Fy s q;unfold M.ko at e;unfold M.Df;by_cases i:k=114
  .grind
  rw[au i]at e ⊢;by_cases o:k=102
  .grind
  rw[au o]at e ⊢;by_cases u:k=115
  .grind
  rw[au u]at e ⊢;by_cases y:k=45
  .grind
  rw[au y];omega
 simp[M.tk,H,G]
theorem Ol:∀e,e<23->M.k1 e=116->∀R F,M.k2 e=116\/M.Df R F (M.k2 e)=255:=by
 have h:∀e,e<23->M.k1 e=116->M.k2 e=116:=ek;grind
theorem EO{R F L:Nat}(h:(M.ins s p R F L).2=true):M.bt s p<23/\M.tk s p 0 22=true/\p+4<=s.size/\(∀k,k<3->M.tk s (p+1+k) 0 (M.Df R F ((M.kd.getD (M.bt s p) []).getD k 0))=true)/\(M.k1 (M.bt s p)=116->256*M.bt s (p+2)+M.bt s (p+3)<=L)/\(M.ins s p R F L).1=p+4:=by
 unfold M.ins at h ⊢;by_cases y:M.tk s p 0 22=true
 case neg=>grind
 rw[bf y]at h ⊢;obtain⟨l0,_,l2⟩:=M.gU y;obtain⟨kf,Z,_⟩:=M.uG (M.bt s p) ag;unfold M.tJ at h ⊢;by_cases G:M.tk s (p+1) 0 (M.ko R F (M.k0 (M.bt s p)))=true
 case neg=>grind
 rw[bf G]at h ⊢;have Y:(M.kd.getD (M.bt s p) []).getD 0 0=M.k0 (M.bt s p):=rfl;have g1:(M.kd.getD (M.bt s p) []).getD 1 0=M.k1 (M.bt s p):=rfl;have W:(M.kd.getD (M.bt s p) []).getD 2 0=M.k2 (M.bt s p):=rfl;by_cases u:M.k1 (M.bt s p)=116
 .rw[bf u]at h ⊢;unfold M.wI at h ⊢;by_cases o:s.size<p+1+1+2
  .grind
  rw[au o]at h ⊢;by_cases i:L<256*M.bt s (p+1+1)+M.bt s (p+1+1+1)
  .grind
  rw[au i]at h ⊢;grind[Ol,Nat.le_of_not_lt,yU,M.Bp,M.xZ]
 rw[au u]at h ⊢;by_cases o:M.tk s (p+1+1) 0 (M.ko R F (M.k1 (M.bt s p)))=true
 case neg=>grind
 rw[bf o]at h ⊢;by_cases i:M.tk s (p+1+2) 0 (M.ko R F (M.k2 (M.bt s p)))=true
 case neg=>grind
 rw[bf i]at h ⊢;obtain⟨l4,_,_⟩:=M.gU i;grind[absurd,yU]
def fv(s:ByteArray)(p k j:Nat):Int:=if j<=k then(M.bt s (p+j):Int) else 0
def sS(s:ByteArray)(p k:Nat):Obj:=four (fv s p k 0) (fv s p k 1) (fv s p k 2) (fv s p k 3)
theorem zf{c:Nat}{o u i e:Int}(h:w.heap[c]? = some (four o u i e))(j:Nat)(x:Int)(G:j<4):(w.setCell (ay c j) (aj x)).heap[c]? = some (four (if j=0 then x else o) (if j=1 then x else u) (if j=2 then x else i) (if j=3 then x else e)):=by
 grind[oU,World.setCell,four]
theorem wi{c k:Nat}(h:w.heap[c]? = some (sS s p k))(o:k<3):(w.setCell (ay c (k+1)) (aj (M.bt s (p+1+k)))).heap[c]? = some (sS s p (k+1)):=by
 grind[zf,M.bt,sS,fv,Nat.add_assoc]
def uM{c k:Nat}(h:w.heap[c]? = some (sS s p k))(j:Nat)(e:j<4):(∃x:Int,w.cell? (ay c j)=some (aj x))/\w.frozen? (ay c j)=false:=fP.cell ⟨_,_,_,_,h⟩ j e
theorem Fo(b:Nat)(s:ByteArray)(p R F L:Nat)(r f l:Int)(w:aa)(h:w.heap[b]? = some (jZ s p false))(hs:s.size<=maxLen)(aV:s.size<=140737488355328)(hr:Hid (r=R))(hf:Hid (f=F))(hl:Hid (l=L))(h1:1<=R)(h2:1<=F)(h3:R<=8)(h4:F<=8)(aD:(M.ins s p R F L).2=true): dD 54 #[.pointer (some (ay b 0)),aj r,aj l,aj f] w (.agg #[aj (M.bt s p),aj (M.bt s (p+1)),aj (M.bt s (p+2)),aj (M.bt s (p+3))]) λw'=>w'.heap[b]? = some (jZ s ((p+4:Nat):Int) false)/\w.grownBy w' (some b):=by
 obtain⟨o1,o2,o3,o4,o5,_⟩:=EO aD;have hb:=ch h;have H:Hid (w.heap[b]? = some (jZ s p false)):=h;change Hid _ at hs o4 o5 o2;clear h aD;delta dD;go_in;go_wp2_with fail
 refine du (jK b s p 0 22 0 22 _ (ik (ik H.out _) _) hs.out rfl rfl o2.out) ?_;rintro w1 ⟨hh,hg⟩;generalize aA:M.bt s p=G at *;change Hid _ at aA;have a8:=ar (ar (ak _ _ _) (ak _ _ _)) hg;have F8:=fP.kept (w:=(w.alloc (four 0 0 0 0)).alloc (four 0 0 0 0)) ⟨0,0,0,0,(av _ _ _ eB).trans (bl w _)⟩ hg ag;have F9:=da hg (by have o:=bl (w.alloc (four 0 0 0 0)) (four 0 0 0 0);rw[World.size_alloc]at o;exact o) F1;obtain⟨⟨x9,d9⟩,e9⟩:=fP.cell ⟨_,_,_,_,F9⟩ 0 ag;have HH:=bj hh;have HG:=bj a8;have H8:=bj F8;have H9:=bj F9;clear hh a8 F8 F9 hg;go_wp2_with fail
 refine du (vV G _ o1) λw2 hB=>?_;have gB:(w1.setCell (ay (w.heap.size+1) 0) (aj G)).grownBy w2 (some b):=kN (gG hB);have KG:=bj (ar (bu HG.out (ah eB) _) gB);have gN:(w1.setCell (ay (w.heap.size+1) 0) (aj G)).grownBy w2 (some w2.heap.size):=kN (gG hB);have aH:=hB.size;simp[World.setCell]at aH;have KB:=bj (da gN (iQ HH.out ag) (by intro e;injection e;have:=ch HH.out;omega));have K8:=bj (fP.kept (fP.other H8.out ag) gB ag);have K9:Hid (w2.heap[w.heap.size+1]? = some (sS s p 0)):=by
  refine da gB ?_ F1;have o:=zf H9.out 0 G ag;rw[o];simp[sS,fv,aA.out]
 obtain⟨kf,kz⟩:=M.oh G o1;have a6:Hid (∀k (hk:k<(M.KS G).size),(M.KS G)[k].toNat=(M.kd.getD G []).getD k 0):=λk hk=>by
  have e:=M.mj (M.KS G) k hk;rw[<-kf,<-List.oM,e];rfl
 clear gB gN hB HH HG H8 H9 d9 e9 kf;generalize hS:M.KS G=S at *;clear hS;have aK:1<S.size:=ag
 have b0:S.size<=3:=ag;have b6:3<=S.size:=ag;have b7:(1:Int)<(S.size:Int):=ag;have HM:Hid (S[1].toNat=M.k1 G):=a6.out 1 aK;clear kz;generalize hm:M.k1 G=m at *;clear hm;go_wp2
 go_loopw [11] (λi wr=>∃k:Nat,k<=3/\i=aj ((k:Int)+1)/\Hid (wr.heap[b]? = some (jZ s ((p+1+k:Nat):Int) false))/\Hid (w.grownBy wr (some b))/\Hid (fP wr w.heap.size)/\Hid (wr.heap[w.heap.size+1]? = some (sS s p k))) (λi _=>4-(intOf i).toNat)
 case atStart=>exact⟨0,ag,rfl,KB,KG,K8,K9⟩
 case round=>
  clear KB KG K8 K9;obtain⟨k,hk,rfl,rB,rG,r8,r9⟩:=hrel;by_cases aO:k<3
  .have aN:k<S.size:=ag;have a4:Hid (M.tk s (p+1+k) 0 (M.Df R F S[k].toNat)=true):=by
    have o:=o4.out k aO;rw[<-a6.out k aN]at o;exact o
   have aM:Hid (k=1->S[k].toNat=m):=by
    intro e;subst e;exact HM.out
   have b1:1<=r:=gp hr.out;have b2:r<=8:=gp hr.out;have b3:1<=f:=gp hf.out;have b4:f<=8:=gp hf.out;by_cases e1:k=1/\m=116
   .obtain⟨e1,em⟩:=e1;have g2:(((k:Int)+1) == 2)=true:=fH
    have aJ:Hid (k=1):=e1;have g3:((S[1].toNat:Int) == 116)=true:=by have:=HM.out;simp;omega
    have Z:Hid (S[k].toNat=116):=by show _=_;rw[aM.out aJ.out,em]
    have W:((S[k].toNat:Int) == 114)=false:=by have:=Z.out;simp;omega
    have q1:((S[k].toNat:Int) == 102)=false:=by have:=Z.out;simp;omega
    have q2:((S[k].toNat:Int) == 115)=false:=by have:=Z.out;simp;omega
    have q3:((S[k].toNat:Int) == 45)=false:=by have:=Z.out;simp;omega
    have a5:=o5.out em;obtain⟨q,hq⟩:∃q,q=p+1+k:=⟨_,rfl⟩;have a7:p+2=q:=ag
    have aC:p+3=q+1:=ag;rw[a7,aC]at a5;have ez:q+1<s.size:=ag
    have HQ:=bj hq;change Hid _ at em;rw[<-hq]at rB;clear e1 a7 aC;obtain⟨y0,y1,y2⟩:=ij rB.out;have aY:IntKind.i64.wrap ((q:Int)+1)=(q:Int)+1:=iU
    have a9:q<s.size:=ag;have aZ:s[q].toNat<256:=fg _;have aT:s[q+1].toNat<256:=fg _;have aQ:IntKind.i64.wrap (s[q].toNat:Int)=(s[q].toNat:Int):=iU
    have aR:IntKind.i64.wrap (256*(s[q].toNat:Int))=256*(s[q].toNat:Int):=iU;have b5:IntKind.i64.wrap (s[q+1].toNat:Int)=(s[q+1].toNat:Int):=iU;have aS:IntKind.i64.wrap (256*(s[q].toNat:Int)+(s[q+1].toNat:Int))=256*(s[q].toNat:Int)+(s[q+1].toNat:Int):=iU;have aU:((q:Int)+1).toNat=q+1:=ag;have aP:(q:Int)+1<(s.size:Int):=ag;have aW:(0:Int)<=(q:Int)+1:=ag;have t1:=M.nu s q a9;have t2:=M.nu s (q+1) ez;have g5:decide (l<256*(s[q].toNat:Int)+(s[q+1].toNat:Int))=false:=by have:=hl.out;rw[<-t1,<-t2];simp;omega
    have HT:Hid (M.tk s q 0 255=true):=by
     show _=_;rw[M.xZ];simpa using a9
    clear t1 t2 a5 hq a4;go_wp2
    go_quiet (fail)
    go_wp2_with fail
    refine du (jK b s q 0 255 0 255 (wr.drewN nq) rB.out hs.out rfl rfl HT.out) ?_;rintro w4 ⟨hh,u⟩;have a2:Hid (w4.heap[b]? = some (jZ s ((p+1+(k+1):Nat):Int) false)):=by
     have o:=hh;rw[HQ.out]at o;exact o
    have a0:=bj (ar (df rG.out _) u);have a3:=bj (fP.kept (w:=(wr.drewN nq)) r8.out u ag);have J:=bj (da u r9.out F1);obtain⟨⟨y,d4⟩,e4⟩:=uM J.out (k+1) ag;have aG:Hid (M.bt s q=M.bt s (p+1+k)):=by show _=_;rw[HQ.out]
    clear hh u rB rG r8 r9 HT y0 y1 y2;go_wp2
    go_roundw
    case rel=>exact⟨k+1,ag,iA,iQ a2.out ag,bu a0.out (ah eB) _,fP.other a3.out ag,by rw[aG.out];exact wi J.out ag⟩
    case measure=>simp[intOf];omega
   have HG:Hid ((((k:Int)+1) == 2)=false\/((((k:Int)+1) == 2)=true/\((S[1].toNat:Int) == 116)=false)):=by
    by_cases e2:k=1
    .exact ah ⟨fH,by have:=HM.out;have:m≠116:=λe=>e1 ⟨e2,e⟩;simp;omega⟩
    exact af fH
   have HZ:Hid (∃(X:Nat) (Y:Int),Y=(X:Int)/\M.tk s (p+1+k) 0 X=true/\((((S[k].toNat:Int) == 114)=true/\Y=r-1)\/(((S[k].toNat:Int) == 114)=false/\((S[k].toNat:Int) == 102)=true/\Y=f-1)\/(((S[k].toNat:Int) == 114)=false/\((S[k].toNat:Int) == 102)=false/\((S[k].toNat:Int) == 115)=true/\Y=8)\/(((S[k].toNat:Int) == 114)=false/\((S[k].toNat:Int) == 102)=false/\((S[k].toNat:Int) == 115)=false/\((S[k].toNat:Int) == 45)=true/\Y=0)\/(((S[k].toNat:Int) == 114)=false/\((S[k].toNat:Int) == 102)=false/\((S[k].toNat:Int) == 115)=false/\((S[k].toNat:Int) == 45)=false/\Y=255))):=by
    have o:=a4.out;unfold M.Df at o;by_cases z0:S[k].toNat=114
    .rw[bf z0]at o;exact⟨_,r-1,gp hr.out,o,af ⟨fH,rfl⟩⟩
    rw[au z0]at o;have W:((S[k].toNat:Int) == 114)=false:=fH
    by_cases z1:S[k].toNat=102
    .rw[bf z1]at o;exact⟨_,f-1,gp hf.out,o,ah (af ⟨W,fH,rfl⟩)⟩
    rw[au z1]at o;have q1:((S[k].toNat:Int) == 102)=false:=fH
    by_cases z2:S[k].toNat=115
    .rw[bf z2]at o;exact⟨_,8,rfl,o,ah (ah (af ⟨W,q1,fH,rfl⟩))⟩
    rw[au z2]at o;have q2:((S[k].toNat:Int) == 115)=false:=fH
    by_cases z3:S[k].toNat=45
    .rw[bf z3]at o;exact⟨_,0,rfl,o,ah (ah (ah (af ⟨W,q1,q2,fH,rfl⟩)))⟩
    rw[au z3]at o;exact⟨_,255,rfl,o,ah (ah (ah (ah ⟨W,q1,q2,fH,rfl⟩)))⟩
   obtain⟨X,Y,aB,hT,hq⟩:=HZ.out;change Hid _ at aB hT;clear HZ a4 e1;rcases HG.out with g2|⟨g2,g3⟩<;>rcases hq with⟨W,rfl⟩|⟨W,q1,rfl⟩|⟨W,q1,q2,rfl⟩|⟨W,q1,q2,q3,rfl⟩|⟨W,q1,q2,q3,rfl⟩
   all_goals
    clear HG;go_wp2
    go_quiet (fail)
    go_wp2_with fail
    refine du (jK b s (p+1+k) 0 X 0 _ (wr.drewN nq) rB.out hs.out rfl (gp aB.out) hT.out) ?_;rintro w4 ⟨hh,u⟩;have a2:Hid (w4.heap[b]? = some (jZ s ((p+1+(k+1):Nat):Int) false)):=hh;have a0:=bj (ar (df rG.out _) u);have a3:=bj (fP.kept (w:=(wr.drewN nq)) r8.out u ag);have J:=bj (da u r9.out F1);obtain⟨⟨y,d4⟩,e4⟩:=uM J.out (k+1) ag;clear hh u rB rG r8 r9 hT;go_wp2
    go_roundw
    case rel=>exact⟨k+1,ag,iA,iQ a2.out ag,bu a0.out (ah eB) _,fP.other a3.out ag,wi J.out ag⟩
    case measure=>simp[intOf];omega
  obtain rfl:k=3:=by omega
  obtain⟨z0,z1,z2,z3,f8⟩:=r8.out;have f9:wr.heap[w.heap.size+1]? = some (four (G:Int) (M.bt s (p+1)) (M.bt s (p+2)) (M.bt s (p+3))):=by
   have o:=r9.out;rw[o];simp[sS,fv,aA.out]
  obtain⟨_,d0,d1,d2,d3,_,_,_,_⟩:=nj f9 (aw wr (some b)) ag;obtain⟨_,c0,c1,c2,c3,e0,e1,e2,e3⟩:=nj f8 (aw wr (some b)) ag;clear f8 f9 r8 r9;go_wp2
  refine dg (v:=.agg #[aj G,aj (M.bt s (p+1)),aj (M.bt s (p+2)),aj (M.bt s (p+3))]) (by simp[results,results54,go_sem,c0,c1,c2,c3]) rfl ⟨by rw[aA.out],?_,?_⟩
  .repeat (rw[ab _ _ _ _ fH])
   exact rB.out
  repeat (refine bu ?_ (ah eB) _)
  exact rG.out
theorem GU(s:ByteArray)(c0 c1 i o:Int)(w:aa)(h:uA c0 c1 i o=false): dD 31 #[.string s,.agg #[aj c0,aj c1,aj i,aj o]] w (.tuple #[.pointer none,.agg #[aj 1,aj 0]]) λw'=>Below w.heap.size w w':=by
 have hX:decide (c0<1)=true\/decide (c0<1)=false/\(decide (200<c0)=true\/decide (200<c0)=false/\(decide (c1<1)=true\/decide (c1<1)=false/\(decide (50<c1)=true\/decide (50<c1)=false/\(decide (i<1)=true\/decide (i<1)=false/\(decide (50<i)=true\/decide (50<i)=false/\(decide (o<1)=true\/decide (o<1)=false/\decide (16<o)=true)))))):=by
  simp[uA,vm]at h;simp only[decide_eq_true_eq,decide_eq_false_iff_not];omega
 clear h;rcases hX with u|⟨u,Y|⟨Y,H|⟨H,y|⟨y,G|⟨G,W|⟨W,J|⟨J,Z⟩⟩⟩⟩⟩⟩⟩
 all_goals
  delta dD;go_in;go_wp2
  refine dg (v:=.tuple #[.pointer none,.agg #[aj 1,aj 0]]) (by simp[results,results31,go_sem]) rfl ⟨rfl,?_⟩;exact((fQ _ _).alloc (bq _) _).alloc eB _
theorem GS(s:ByteArray)(c0 c1 u G:Int)(w:aa)(Z:s.size<=maxLen)(J:s.size<=140737488355328)(o:uA c0 c1 u G=true)(hn:(M.m9 s).2=false): dD 31 #[.string s,.agg #[aj c0,aj c1,aj u,aj G]] w (.tuple #[.pointer none,.agg #[aj 2,aj ((M.m9 s).1:Int)]]) λw'=>Below w.heap.size w w':=by
 have HS:Hid (s.size<=maxLen):=Z;have HN:Hid ((M.m9 s).2=false):=hn;simp[uA,vm]at o;have b0:decide (c0<1)=false:=fH
 have b1:decide (200<c0)=false:=fH
 have b2:decide (c1<1)=false:=fH
 have b3:decide (50<c1)=false:=fH
 have b4:decide (u<1)=false:=fH
 have b5:decide (50<u)=false:=fH
 have b6:decide (G<1)=false:=fH
 have b7:decide (16<G)=false:=fH
 delta dD;go_in;go_wp2_with fail
 refine(wX s _ HS.out J).mono ?_;rintro e w1 ⟨hP,y⟩;obtain⟨W,Y⟩:=ta y;have H:Hid (Below w.heap.size w w1):=(((fQ _ _).alloc (bq _) _).alloc eB _).trans (y.mono fH);have d0:w1.cell? (ay (w.heap.size+1) 0)=some (aj 0):=by rw[W _ _ eB];simp[go_sem]
 have d1:w1.cell? (ay (w.heap.size+1) 1)=some (aj 0):=by rw[W _ _ eB];simp[go_sem]
 rcases hP with⟨_,rfl⟩|⟨i,_⟩
 .generalize hP:(M.m9 s).1=P at *;have HP:Hid ((M.m9 s).1=P):=hP;go_wp2_with fail
  refine dg (v:=.tuple #[.pointer none,.agg #[aj 2,aj P]]) (by simp[results,results31,go_sem,d0,d1]) rfl ⟨eR,?_⟩;repeat (refine Below.setCell ?_ eB _)
  exact H.out
 grind
theorem CA(s:ByteArray)(c0 c1 o u:Int)(w:aa)(G:s.size<=maxLen)(y:s.size<=140737488355328)(h:uA c0 c1 o u=false\/(M.m9 s).2=false): dD 31 #[.string s,.agg #[aj c0,aj c1,aj o,aj u]] w (.tuple #[.pointer none,.agg #[aj (told s c0 c1 o u).1,aj (told s c0 c1 o u).2.1]]) λw'=>Below w.heap.size w w':=by
 unfold told;by_cases i:uA c0 c1 o u=true
 .simp_all[bf,au,decide,GS]
 simp_all[au,GU]
theorem LI(n:Int)(w:aa):dD 32 #[aj n] w (aj n) λw'=>w'=w:=by
 delta dD;go_in;go_wp2
 go_ret;simp_all
theorem Ex(s:ByteArray)(c0 c1 G H:Int)(w:aa)(hs:s.size<=maxLen)(W:s.size<=140737488355328)(hT:og w)(h:uA c0 c1 G H=false\/(M.m9 s).2=false): dD 14 #[.string s,.agg #[aj c0,aj c1,aj G,aj H]] w (.tuple #[.pointer none,.bool true]) λw'=>Below w.heap.size w w':=by
 have HS:=bj hs;have KT:Hid (og w):=hT;have HH:=bj h;delta dD;go_in;go_wp2_with fail
 refine(vS s c0 c1 G H _ HS.out (KT.out.alloc _) (λ_ _=>False) (λh1 h2=>HH.out.elim (λh=>dp h1 eR) (λh=>dp h2 eR))).mono ?_;rintro e w1 ⟨o,⟨x,y,rfl,_,hx⟩|⟨_,_,_,_,hF,_⟩⟩
 case inr=>grind
 obtain⟨u,Z⟩:=ta o;have hz:=o.size;simp at hz;have J:=bj (((fQ _ _).alloc (bq _) _).trans (o.mono eB));have a0:w1.cell? (ay w.heap.size 0)=some (aj c0):=by rw[u _ _ eB];simp[go_sem]
 have a1:w1.cell? (ay w.heap.size 1)=some (aj c1):=by rw[u _ _ eB];simp[go_sem]
 have a2:w1.cell? (ay w.heap.size 2)=some (aj G):=by rw[u _ _ eB];simp[go_sem]
 have a3:w1.cell? (ay w.heap.size 3)=some (aj H):=by rw[u _ _ eB];simp[go_sem]
 have HX:Hid (told s c0 c1 G H=(x,y,false)):=hx;have l0:w.heap.size<w1.heap.size:=ag
 go_wp2_with fail
 refine(CA s c0 c1 G H _ HS.out W HH.out).mono ?_;rw[HX.out];rintro e w2 ⟨rfl,i⟩;obtain⟨u,Z⟩:=ta i;have a4:=i.size;simp at a4;have Y:Hid (Below w.heap.size w w2):=(J.out.alloc ag _).trans (i.mono fH);have f0:w2.cell? (ay w1.heap.size 0)=some (aj x):=by rw[u _ _ eB];simp[go_sem]
 have f1:w2.cell? (ay w1.heap.size 1)=some (aj y):=by rw[u _ _ eB];simp[go_sem]
 have l1:w1.heap.size<w2.heap.size:=ag
 go_wp2_with fail
 go_quiet ((go_at_call 32;exact Calls.quiet_of_same (LI _ _)))
 go_wp2_with fail
 go_ret2
 refine⟨rfl,?_⟩;repeat (first|exact Y.out|refine Below.alloc ?_ ag _|refine below_drewN ?_ _)
