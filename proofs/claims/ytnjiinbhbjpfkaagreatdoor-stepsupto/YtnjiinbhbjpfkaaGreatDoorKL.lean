import Derived.Test.YtnjiinbhbjpfkaaGreatDoorKI
set_option maxRecDepth 100000
set_option maxHeartbeats 0
set_option linter.all false
namespace Go.Proofs.YtnjiinbhbjpfkaaGreatDoor
open Go.RowKit Go.Proofs.Tryz
section
theorem pI(r f k:Nat)(s:ByteArray)(q:Nat)(h:M.tk s q 0 (M.iQ r f k)=true):M.tk s q 0 (M.BM r f k)=true:=by
 obtain⟨H,_,e⟩:=M.fK h;have G:M.bt s q<=M.BM r f k:=by
  have J:=M.my s q;unfold M.iQ at e;unfold M.BM;by_cases i:k=114
  .rw[aj i]at e ⊢;exact e
  rw[aa i]at e ⊢;by_cases o:k=102
  .rw[aj o]at e ⊢;exact e
  rw[aa o]at e ⊢;by_cases u:k=115
  .rw[aj u]at e ⊢;exact e
  rw[aa u]at e ⊢;by_cases y:k=45
  .rw[aj y];rw[aa (by omega)]at e;exact e
  rw[aa y];omega
 simp[M.tk,H,G]
theorem Mg:∀e,e<23->M.k1 e=116->∀R F,M.k2 e=116\/M.BM R F (M.k2 e)=255:=by
 have h:∀e,e<23->M.k1 e=116->M.k2 e=116:=by decide
 exact λe o i _ _=>ag (h e o i)
theorem Di{s:ByteArray}{p R F L:Nat}(h:(M.ins s p R F L).2=true):M.bt s p<23/\M.tk s p 0 22=true/\p+4<=s.size/\(∀k,k<3->M.tk s (p+1+k) 0 (M.BM R F ((M.kd.getD (M.bt s p) []).getD k 0))=true)/\(M.k1 (M.bt s p)=116->256*M.bt s (p+2)+M.bt s (p+3)<=L)/\(M.ins s p R F L).1=p+4:=by
 unfold M.ins at h ⊢;by_cases y:M.tk s p 0 22=true
 case neg=>rw[aa y]at h;cases h
 rw[aj y]at h ⊢;obtain⟨l0,_,l2⟩:=M.fK y;obtain⟨kf,Z,_⟩:=M.tg (M.bt s p) (by omega);unfold M.rz at h ⊢;by_cases G:M.tk s (p+1) 0 (M.iQ R F (M.k0 (M.bt s p)))=true
 case neg=>rw[aa G]at h;cases h
 rw[aj G]at h ⊢;have Y:(M.kd.getD (M.bt s p) []).getD 0 0=M.k0 (M.bt s p):=rfl;have g1:(M.kd.getD (M.bt s p) []).getD 1 0=M.k1 (M.bt s p):=rfl;have W:(M.kd.getD (M.bt s p) []).getD 2 0=M.k2 (M.bt s p):=rfl;by_cases u:M.k1 (M.bt s p)=116
 .rw[aj u]at h ⊢;unfold M.uQ at h ⊢;by_cases o:s.size<p+1+1+2
  .rw[aj o]at h;cases h
  rw[aa o]at h ⊢;by_cases i:L<256*M.bt s (p+1+1)+M.bt s (p+1+1+1)
  .rw[aj i]at h;cases h
  rw[aa i]at h ⊢;have H:=Mg _ (by omega) u R F;refine⟨by omega,y,by omega,λk hk=>?_,λ_=>(Nat.le_of_not_lt i),rfl⟩;have J:k=0\/k=1\/k=2:=by omega
  rcases J with rfl|rfl|rfl
  .rw[Y];exact pI _ _ _ _ _ G
  .rw[g1,u,M.xF,M.sn];simp;omega
  rw[W];rcases H with e|e
  .rw[e,M.xF,M.sn];simp;omega
  rw[e,M.sn];simp;omega
 rw[aa u]at h ⊢;by_cases o:M.tk s (p+1+1) 0 (M.iQ R F (M.k1 (M.bt s p)))=true
 case neg=>rw[aa o]at h;cases h
 rw[aj o]at h ⊢;by_cases i:M.tk s (p+1+2) 0 (M.iQ R F (M.k2 (M.bt s p)))=true
 case neg=>rw[aa i]at h;cases h
 rw[aj i]at h ⊢;obtain⟨l4,_,_⟩:=M.fK i;refine⟨by omega,y,by omega,λk hk=>?_,λe=>ch e u,rfl⟩;have J:k=0\/k=1\/k=2:=by omega
 rcases J with rfl|rfl|rfl
 .rw[Y];exact pI _ _ _ _ _ G
 .rw[g1];exact pI _ _ _ _ _ o
 rw[W];exact pI _ _ _ _ _ i
def fv(s:ByteArray)(p k j:Nat):Int:=if j<=k then(M.bt s (p+j):Int) else 0
def qF(s:ByteArray)(p k:Nat):Obj:=four (fv s p k 0) (fv s p k 1) (fv s p k 2) (fv s p k 3)
theorem xM{w:World}{c:Nat}{o u i e:Int}(h:w.heap[c]? = some (four o u i e))(j:Nat)(x:Int)(G:j<4):(w.setCell ⟨c,j,none⟩ (.int .i64 x)).heap[c]? = some (four (if j=0 then x else o) (if j=1 then x else u) (if j=2 then x else i) (if j=3 then x else e)):=by
 have y:j=0\/j=1\/j=2\/j=3:=by omega
 rcases y with rfl|rfl|rfl|rfl<;>simp[World.setCell,cn,h,four]
theorem uF{w:World}{c k:Nat}{s:ByteArray}{p:Nat}(h:w.heap[c]? = some (qF s p k))(o:k<3):(w.setCell ⟨c,k+1,none⟩ (.int .i64 (M.bt s (p+1+k)))).heap[c]? = some (qF s p (k+1)):=by
 rw[xM h (k+1) (M.bt s (p+1+k)) (by omega)];have i:k=0\/k=1\/k=2:=by omega
 rcases i with rfl|rfl|rfl<;>simp[qF,fv,Nat.add_assoc]
theorem tv{w:World}{c k:Nat}{s:ByteArray}{p:Nat}(h:w.heap[c]? = some (qF s p k))(j:Nat)(e:j<4):(∃x:Int,w.cell? ⟨c,j,none⟩=some (.int .i64 x))/\w.frozen? ⟨c,j,none⟩=false:=eW.cell ⟨_,_,_,_,h⟩ j e
theorem DM(b:Nat)(s:ByteArray)(p R F L:Nat)(r f l:Int)(w:World)(h:w.heap[b]? = some (jc s p false))(hs:s.size<=maxLen)(aV:s.size<=140737488355328)(hr:Hid (r=R))(hf:Hid (f=F))(hl:Hid (l=L))(h1:1<=R)(h2:1<=F)(h3:R<=8)(h4:F<=8)(aD:(M.ins s p R F L).2=true): Calls prog 54 #[.pointer (some ⟨b,0,none⟩),.int .i64 r,.int .i64 l,.int .i64 f] w λe w'=>e=.returned (.agg #[.int .i64 (M.bt s p),.int .i64 (M.bt s (p+1)),.int .i64 (M.bt s (p+2)),.int .i64 (M.bt s (p+3))])/\w'.heap[b]? = some (jc s ((p+4:Nat):Int) false)/\w.grownBy w' (some b):=by
 obtain⟨o1,o2,o3,o4,o5,_⟩:=Di aD;have hb:=bz h;have H:Hid (w.heap[b]? = some (jc s p false)):=h;have HS:=az hs;have aL:=az o4;have aF:=az o5;have aE:=az o2;clear h hs aD o4 o5 o2;go_in;go_wp2_with fail
 refine(iN b s p 0 22 0 22 _ (ga (ga H.out _) _) HS.out rfl rfl aE.out).mono ?_;rintro e w1 ⟨rfl,hh,hg⟩;generalize aA:M.bt s p=G at *;have a1:=az aA;clear aA;have a8:=an (an (ah _ _ _) (ah _ _ _)) hg;have F8:=eW.kept (w:=(w.alloc (four 0 0 0 0)).alloc (four 0 0 0 0)) ⟨0,0,0,0,(ak _ _ _ (by simp)).trans (bf w _)⟩ hg (by omega);have F9:=cm hg (by have o:=bf (w.alloc (four 0 0 0 0)) (four 0 0 0 0);rw[World.size_alloc]at o;exact o) (by intro e;injection e;omega);obtain⟨⟨x9,d9⟩,e9⟩:=eW.cell ⟨_,_,_,_,F9⟩ 0 (by omega);have HH:=az hh;have HG:=az a8;have H8:=az F8;have H9:=az F9;clear hh a8 F8 F9 hg;go_wp2_with fail
 refine(uA G _ o1).mono ?_;rintro e w2 ⟨rfl,hB⟩;have gB:(w1.setCell ⟨w.heap.size+1,0,none⟩ (.int .i64 G)).grownBy w2 (some b):=jz (by simpa using hB);have KG:=az (an (bp HG.out (ab (by simp)) _) gB);have gN:(w1.setCell ⟨w.heap.size+1,0,none⟩ (.int .i64 G)).grownBy w2 (some w2.heap.size):=jz (by simpa using hB);have aH:=hB.size;simp[World.setCell]at aH;have KB:=az (cm gN (gL HH.out (by omega)) (by intro e;injection e;have:=bz HH.out;omega));have K8:=az (eW.kept (eW.other H8.out (by omega)) gB (by omega));have K9:Hid (w2.heap[w.heap.size+1]? = some (qF s p 0)):=by
  refine cm gB ?_ (by intro e;injection e;omega);have o:=xM H9.out 0 G (by omega);rw[o];simp[qF,fv,a1.out]
 obtain⟨kf,kz⟩:=M.mC G o1;have a6:Hid (∀k (hk:k<(M.KS G).size),(M.KS G)[k].toNat=(M.kd.getD G []).getD k 0):=λk hk=>by
  have e:=M.kx (M.KS G) k hk;rw[<-kf,<-List.mX,e];rfl
 clear gB gN hB HH HG H8 H9 d9 e9 kf;generalize hS:M.KS G=S at *;clear hS;have aK:1<S.size:=by omega
 have b0:S.size<=3:=by omega
 have b6:3<=S.size:=by omega
 have b7:(1:Int)<(S.size:Int):=by omega
 have HM:Hid (S[1].toNat=M.k1 G):=a6.out 1 aK;clear kz;generalize hm:M.k1 G=m at *;clear hm;go_wp2_with fail
 go_loopw [11] (λi wr=>∃k:Nat,k<=3/\i=.int .i64 ((k:Int)+1)/\Hid (wr.heap[b]? = some (jc s ((p+1+k:Nat):Int) false))/\Hid (w.grownBy wr (some b))/\Hid (eW wr w.heap.size)/\Hid (wr.heap[w.heap.size+1]? = some (qF s p k))) (λi _=>4-(intOf i).toNat)
 case atStart=>exact⟨0,by omega,rfl,KB,KG,K8,K9⟩
 case round=>
  clear KB KG K8 K9;obtain⟨k,hk,rfl,rB,rG,r8,r9⟩:=hrel;by_cases aO:k<3
  .have aN:k<S.size:=by omega
   have a4:Hid (M.tk s (p+1+k) 0 (M.BM R F S[k].toNat)=true):=by
    have o:=aL.out k aO;rw[<-a6.out k aN]at o;exact o
   have aM:Hid (k=1->S[k].toNat=m):=by
    intro e;subst e;exact HM.out
   have b1:1<=r:=by have:=hr.out;omega
   have b2:r<=8:=by have:=hr.out;omega
   have b3:1<=f:=by have:=hf.out;omega
   have b4:f<=8:=by have:=hf.out;omega
   by_cases e1:k=1/\m=116
   .obtain⟨e1,em⟩:=e1;have g2:(((k:Int)+1) == 2)=true:=by simp;omega
    have aJ:Hid (k=1):=e1;have g3:((S[1].toNat:Int) == 116)=true:=by have:=HM.out;simp;omega
    have Z:Hid (S[k].toNat=116):=by show _=_;rw[aM.out aJ.out,em]
    have W:((S[k].toNat:Int) == 114)=false:=by have:=Z.out;simp;omega
    have q1:((S[k].toNat:Int) == 102)=false:=by have:=Z.out;simp;omega
    have q2:((S[k].toNat:Int) == 115)=false:=by have:=Z.out;simp;omega
    have q3:((S[k].toNat:Int) == 45)=false:=by have:=Z.out;simp;omega
    have a5:=aF.out em;obtain⟨q,hq⟩:∃q,q=p+1+k:=⟨_,rfl⟩;have a7:p+2=q:=by omega
    have aC:p+3=q+1:=by omega
    rw[a7,aC]at a5;have ez:q+1<s.size:=by omega
    have HQ:=az hq;have aX:=az em;rw[<-hq]at rB;clear em e1 a7 aC;obtain⟨y0,y1,y2⟩:=fZ rB.out;have aY:IntKind.i64.wrap ((q:Int)+1)=(q:Int)+1:=by rw[bl,bd _ (by omega)]
    have a9:q<s.size:=by omega
    have aZ:s[q].toNat<256:=eI _;have aT:s[q+1].toNat<256:=eI _;have aQ:IntKind.i64.wrap (s[q].toNat:Int)=(s[q].toNat:Int):=by rw[bl,bd _ (by omega)]
    have aR:IntKind.i64.wrap (256*(s[q].toNat:Int))=256*(s[q].toNat:Int):=by rw[bl,bd _ (by omega)]
    have b5:IntKind.i64.wrap (s[q+1].toNat:Int)=(s[q+1].toNat:Int):=by rw[bl,bd _ (by omega)]
    have aS:IntKind.i64.wrap (256*(s[q].toNat:Int)+(s[q+1].toNat:Int))=256*(s[q].toNat:Int)+(s[q+1].toNat:Int):=by rw[bl,bd _ (by omega)]
    have aU:((q:Int)+1).toNat=q+1:=by omega
    have aP:(q:Int)+1<(s.size:Int):=by omega
    have aW:(0:Int)<=(q:Int)+1:=by omega
    have t1:=M.lF s q a9;have t2:=M.lF s (q+1) ez;have g5:decide (l<256*(s[q].toNat:Int)+(s[q+1].toNat:Int))=false:=by have:=hl.out;rw[<-t1,<-t2];simp;omega
    have HT:Hid (M.tk s q 0 255=true):=by
     show _=_;rw[M.sn];simpa using a9
    clear t1 t2 a5 hq a4;go_wp2_with fail
    go_quiet (fail)
    go_wp2_with fail
    refine(iN b s q 0 255 0 255 (wr.drewN nq) rB.out HS.out rfl rfl HT.out).mono ?_;rintro e w4 ⟨rfl,hh,u⟩;have a2:Hid (w4.heap[b]? = some (jc s ((p+1+(k+1):Nat):Int) false)):=by
     have o:=hh;rw[HQ.out]at o;exact o
    have a0:=az (an (db rG.out _) u);have a3:=az (eW.kept (w:=(wr.drewN nq)) r8.out u (by omega));have J:=az (cm u r9.out (by intro e;injection e;omega));obtain⟨⟨y,d4⟩,e4⟩:=tv J.out (k+1) (by omega);have aG:Hid (M.bt s q=M.bt s (p+1+k)):=by show _=_;rw[HQ.out]
    clear hh u rB rG r8 r9 HT y0 y1 y2;go_wp2_with fail
    go_roundw
    case rel=>exact⟨k+1,by omega,by go_num,gL a2.out (by omega),bp a0.out (ab (by simp)) _,eW.other a3.out (by omega),by rw[aG.out];exact uF J.out (by omega)⟩
    case measure=>simp[intOf];omega
   have HG:Hid ((((k:Int)+1) == 2)=false\/((((k:Int)+1) == 2)=true/\((S[1].toNat:Int) == 116)=false)):=by
    by_cases e2:k=1
    .exact ab ⟨by simp;omega,by have:=HM.out;have:m≠116:=λe=>e1 ⟨e2,e⟩;simp;omega⟩
    exact ag (by simp;omega)
   have HZ:Hid (∃(X:Nat) (Y:Int),Y=(X:Int)/\M.tk s (p+1+k) 0 X=true/\((((S[k].toNat:Int) == 114)=true/\Y=r-1)\/(((S[k].toNat:Int) == 114)=false/\((S[k].toNat:Int) == 102)=true/\Y=f-1)\/(((S[k].toNat:Int) == 114)=false/\((S[k].toNat:Int) == 102)=false/\((S[k].toNat:Int) == 115)=true/\Y=8)\/(((S[k].toNat:Int) == 114)=false/\((S[k].toNat:Int) == 102)=false/\((S[k].toNat:Int) == 115)=false/\((S[k].toNat:Int) == 45)=true/\Y=0)\/(((S[k].toNat:Int) == 114)=false/\((S[k].toNat:Int) == 102)=false/\((S[k].toNat:Int) == 115)=false/\((S[k].toNat:Int) == 45)=false/\Y=255))):=by
    have o:=a4.out;unfold M.BM at o;by_cases z0:S[k].toNat=114
    .rw[aj z0]at o;exact⟨_,r-1,by have:=hr.out;omega,o,ag ⟨by simp;omega,rfl⟩⟩
    rw[aa z0]at o;have W:((S[k].toNat:Int) == 114)=false:=by simp;omega
    by_cases z1:S[k].toNat=102
    .rw[aj z1]at o;exact⟨_,f-1,by have:=hf.out;omega,o,ab (ag ⟨W,by simp;omega,rfl⟩)⟩
    rw[aa z1]at o;have q1:((S[k].toNat:Int) == 102)=false:=by simp;omega
    by_cases z2:S[k].toNat=115
    .rw[aj z2]at o;exact⟨_,8,rfl,o,ab (ab (ag ⟨W,q1,by simp;omega,rfl⟩))⟩
    rw[aa z2]at o;have q2:((S[k].toNat:Int) == 115)=false:=by simp;omega
    by_cases z3:S[k].toNat=45
    .rw[aj z3]at o;exact⟨_,0,rfl,o,ab (ab (ab (ag ⟨W,q1,q2,by simp;omega,rfl⟩)))⟩
    rw[aa z3]at o;exact⟨_,255,rfl,o,ab (ab (ab (ab ⟨W,q1,q2,by simp;omega,rfl⟩)))⟩
   obtain⟨X,Y,aB,hT,hq⟩:=HZ.out;have aI:=az aB;have HT:=az hT;clear HZ a4 aB hT e1;rcases HG.out with g2|⟨g2,g3⟩<;>rcases hq with⟨W,rfl⟩|⟨W,q1,rfl⟩|⟨W,q1,q2,rfl⟩|⟨W,q1,q2,q3,rfl⟩|⟨W,q1,q2,q3,rfl⟩
   all_goals
    clear HG;go_wp2_with fail
    go_quiet (fail)
    go_wp2_with fail
    refine(iN b s (p+1+k) 0 X 0 _ (wr.drewN nq) rB.out HS.out rfl (by have:=aI.out;omega) HT.out).mono ?_;rintro e w4 ⟨rfl,hh,u⟩;have a2:Hid (w4.heap[b]? = some (jc s ((p+1+(k+1):Nat):Int) false)):=hh;have a0:=az (an (db rG.out _) u);have a3:=az (eW.kept (w:=(wr.drewN nq)) r8.out u (by omega));have J:=az (cm u r9.out (by intro e;injection e;omega));obtain⟨⟨y,d4⟩,e4⟩:=tv J.out (k+1) (by omega);clear hh u rB rG r8 r9 HT;go_wp2_with fail
    go_roundw
    case rel=>exact⟨k+1,by omega,by go_num,gL a2.out (by omega),bp a0.out (ab (by simp)) _,eW.other a3.out (by omega),uF J.out (by omega)⟩
    case measure=>simp[intOf];omega
  obtain rfl:k=3:=by omega
  obtain⟨z0,z1,z2,z3,f8⟩:=r8.out;have f9:wr.heap[w.heap.size+1]? = some (four (G:Int) (M.bt s (p+1)) (M.bt s (p+2)) (M.bt s (p+3))):=by
   have o:=r9.out;rw[o];simp[qF,fv,a1.out]
  obtain⟨_,d0,d1,d2,d3,_,_,_,_⟩:=lC f9 (ax wr (some b)) (by omega);obtain⟨_,c0,c1,c2,c3,e0,e1,e2,e3⟩:=lC f8 (ax wr (some b)) (by omega);clear f8 f9 r8 r9;go_wp2_with fail
  refine da (v:=.agg #[.int .i64 G,.int .i64 (M.bt s (p+1)),.int .i64 (M.bt s (p+2)),.int .i64 (M.bt s (p+3))]) (by simp[results,results54,go_sem,c0,c1,c2,c3]) rfl ⟨by rw[a1.out],?_,?_⟩
  .repeat (rw[af _ _ _ _ (by simp;omega)])
   exact rB.out
  repeat (refine bp ?_ (ab (by simp)) _)
  exact rG.out
def J5(s:ByteArray)(p L H:Nat)(bad:Bool)(x q:Nat)(bad':Bool):Prop:=
 (bad'=true/\q=p/\(bad=true\/M.tk s p L H=false))\/(bad'=false/\bad=false/\q=p+1/\x=M.bt s p/\M.tk s p L H=true)
theorem s8(b:Nat)(s:ByteArray)(p L H:Nat)(bad:Bool)(u hi:Int)(w:World)(h:w.heap[b]? = some (jc s p bad))(hs:s.size<=maxLen)(Y:p<=s.size)(y:u=L)(Z:hi=H)(W:L<=H): Calls prog 53 #[.pointer (some ⟨b,0,none⟩),.int .i64 u,.int .i64 hi] w λe w'=>∃(x q:Nat) (i:Bool),e=.returned (.int .i64 x)/\L<=x/\x<=H/\w'.heap[b]? = some (jc s q i)/\w.grownBy w' (some b)/\q<=s.size /\ J5 s p L H bad x q i:=by
 by_cases hb:bad=false/\M.tk s p L H=true
 .obtain⟨rfl,ht⟩:=hb;have h3:=M.fK ht;refine(iN b s p L H u hi w h hs y Z ht).mono ?_;rintro e w' ⟨rfl,G,J⟩;exact⟨M.bt s p,p+1,false,rfl,h3.2.1,h3.2.2,G,J,by omega,ab ⟨rfl,rfl,rfl,rfl,ht⟩⟩
 have o:bad=true\/M.tk s p L H=false:=by
  cases bad with
  | true=>exact ag rfl
  | false=>exact ab (by simpa using hb)
 refine(pA b s p L H bad u hi w h Y y Z o).mono ?_;rintro e w' ⟨rfl,G,J⟩;exact⟨L,p,true,by rw[y],bj _,W,G,J,Y,ag ⟨rfl,rfl,o⟩⟩
theorem mY{w w':World}{o:Obj}(h:(w.alloc o).grownBy w' (some w.heap.size)):Below w.heap.size w w':=
 ⟨h.os,h.tape,h.output,by have:=h.size;simp at this;omega,λk i=>(h.block k (by simp;omega) (by intro e;injection e;omega)).trans (ak _ _ _ i)⟩
theorem jM{w0 w w':World}(h:w.grownBy w' (some w0.heap.size))(o:w0.heap.size<=w.heap.size):Below w0.heap.size w w':=
 ⟨h.os,h.tape,h.output,h.size,λk i=>h.block k (by omega) (by intro e;injection e;omega)⟩
theorem jG{w:World}{k:Nat}{e o:Value}{T:TypeId}(i:w.heap[k]? = some (.cells #[e,o] T (0,0))): k<w.heap.size/\w.cell? ⟨k,0,none⟩=some e/\w.cell? ⟨k,1,none⟩=some o/\w.frozen? ⟨k,0,none⟩=false/\w.frozen? ⟨k,1,none⟩=false:=
 ⟨bz i,by simp[World.cell?,World.frozen?,i]⟩
theorem uP(w:World)(o i:Value)(T:TypeId):∀j u,[o,i][j]? = some u->(w.alloc (.cells #[o,i] T)).cell? ((⟨w.heap.size,0,none⟩:Addr).add j)=some u:=by
 intro j u e;match j,e with
 | 0,e=>simp at e;subst e;simp[Addr.add]
 | 1,e=>simp at e;subst e;simp[Addr.add]
theorem xN(w:World)(o:Obj)(y G H i:Value)(T:TypeId):∀j u,[y,G,H,i][j]? = some u->((w.alloc o).alloc (.cells #[y,G,H,i] T)).cell? ((⟨w.heap.size+1,0,none⟩:Addr).add j)=some u:=by
 intro j u e;match j,e with
 | 0,e=>simp at e;subst e;simp[Addr.add]
 | 1,e=>simp at e;subst e;simp[Addr.add]
 | 2,e=>simp at e;subst e;simp[Addr.add]
 | 3,e=>simp at e;subst e;simp[Addr.add]
theorem wD{w:World}{g:Nat}{e i:Value}{T:TypeId}(h:w.heap[g]? = some (.cells #[e,i] T (0,0)))(v:Value):(w.setCell ⟨g,1,none⟩ v).heap[g]? = some (.cells #[e,v] T (0,0)):=by
 simp[World.setCell,cn,h]
def left(bad:Bool)(q:Nat)(r:Nat×Bool):Nat×Bool:=if bad=true then(q,false) else r
theorem Tryz.Dk:(prog.info? 90).map (λi=>(i.zero,i.size,i.bytes))=some (some (.agg #[.int .i64 0,.int .i64 0,.int .i64 0,.int .i64 0]),4,32):=by kernel_rfl
theorem Tryz.Dl:(prog.info? 89).map (λi=>(i.zero,i.size,i.bytes))=some (some (.agg #[.int .i64 0,.slice none 0 0]),2,32):=by kernel_rfl
def J2(w w':World)(e:Ending)(r:Nat×Bool):Prop:=
 (r.2=false/\e=.returned (.tuple #[.slice none 0 0,.int .i64 (r.1:Int),.bool false])) \/
 (r.2=true/\∃(ad:Addr) (n c:Nat) (r0:Nat),e=.returned (.tuple #[.slice (some ad) n c,.int .i64 0,.bool true])/\1<=n/\2<=r0/\r0<=8/\w'.cell? ad=some (.int .i64 r0)/\ad.spot=none/\ad.off=0/\w.heap.size<=ad.block/\ad.block<w'.heap.size)
theorem EV{s:ByteArray}{q F R L J H:Nat}{e i:Bool}(u:J5 s q 2 8 false R J e)(o:J5 s J 1 200 e L H i): left i H (M.code s R F L H L)=M.fn s q F:=by
 unfold left M.fn;rcases u with⟨rfl,rfl,u⟩|⟨rfl,_,rfl,rfl,u⟩
 .rcases o with⟨rfl,rfl,o⟩|⟨_,h,_⟩
  .rw[aj rfl,aa (by simpa using u)]
  cases h
 rw[aj u];rcases o with⟨rfl,rfl,o⟩|⟨rfl,_,rfl,rfl,o⟩
 .rw[aj rfl,aa (by simpa using o)]
 rw[aj o];simp
theorem xx{s:ByteArray}{F q q' n:Nat}{bad':Bool}{X:Nat×Bool}(h:M.fns s F q (n+1)=X)(hy:M.fn s q F=(q',!bad')):left bad' q' (M.fns s F q' n)=X:=by
 rw[<-h];unfold left
 conv=>rhs;unfold M.fns
 rw[hy]
 cases bad'<;>simp
theorem Bb{s:ByteArray}{R F L q n:Nat}{Y:Nat×Bool}(h:M.code s R F L q (n+1)=Y):left (!(M.ins s q R F L).2) (M.ins s q R F L).1 (M.code s R F L (M.ins s q R F L).1 n)=Y:=by
 rw[<-h];unfold left
 conv=>rhs;unfold M.code
 cases (M.ins s q R F L).2<;>simp
theorem C7{s:ByteArray}{F q:Nat}{bad:Bool}(h:J5 s 0 1 8 false F q bad): ∃X:Nat×Bool,M.jO s=(X.1,X.2 && decide (X.1=s.size))/\left bad q (M.fns s F q F)=X:=by
 rcases h with⟨rfl,rfl,h⟩|⟨rfl,_,rfl,rfl,h⟩
 .exact⟨(0,false),by unfold M.jO;rw[aa (by simpa using h)];rfl,rfl⟩
 exact⟨M.fns s (M.bt s 0) 1 (M.bt s 0),by unfold M.jO;rw[aj h],rfl⟩
def uL(xs:List Value)(k:Nat):Prop:=k=0\/∃r0:Nat,2<=r0/\r0<=8/\xs[0]? = some (.int .i64 r0)
theorem uL.more{xs:List Value}{k R:Nat}{v:Value}(h:uL xs k)(o:2<=R)(u:R<=8)(i:k=0->xs=[]):uL (xs++[.int .i64 R,v]) (k+1):=by
 right
 rcases h with rfl|⟨e,a,b,c⟩
 .rw[i rfl];exact⟨R,o,u,rfl⟩
 refine⟨e,a,b,?_⟩;rw[du]
 .exact c
 exact(bu.1 c).1
theorem pt(s:ByteArray)(w:World)(hs:s.size<=maxLen)(hs2:s.size<=140737488355328): Calls prog 35 #[.string s] w λe w'=>J2 w w' e (M.jO s)/\Below w.heap.size w w':=by
 have HS:Hid (s.size<=maxLen):=hs;clear hs;obtain⟨i1,hi1,hz10,hz11,hz12⟩:=info_parts Tryz.Dk;obtain⟨i2,hi2,hz20,hz21,hz22⟩:=info_parts Tryz.Dl;go_in;go_wp2_with fail
 refine(s8 w.heap.size s 0 1 8 false 1 8 (w.alloc (jc s 0 false)) (bf w _) HS (by omega) rfl rfl (by omega)).mono ?_;rintro e w1 ⟨F,q,bad,rfl,f1,f2,hh,hg,hq,hcase⟩;have KB:Hid (w1.heap[w.heap.size]? = some (jc s q bad)):=hh;have KL:Hid (Below w.heap.size w w1):=mY hg;obtain⟨X,hX1,hX2⟩:=C7 hcase;have HX1:Hid (M.jO s=(X.1,X.2 && decide (X.1=s.size))):=hX1;have HX2:Hid (left bad q (M.fns s F q F)=X):=hX2;clear hh hg hcase hX1 hX2;go_wp2_with fail
 go_loopw [7,8] (λv i wr=>∃(k q:Nat) (bad:Bool) (ad:Option Addr) (cp:Nat) (xs:List Value),k<=F/\q<=s.size/\i=.int .i64 k/\v=.slice ad k cp/\Hid (wr.heap[w.heap.size]? = some (jc s q bad))/\Hid (Below w.heap.size w wr)/\Hid (wr.ownsRow (w.heap.size+1) 89 2 (.slice ad k cp) k xs)/\Hid (uL xs k)/\Hid (left bad q (M.fns s F q (F-k))=X)) (λ_ i _=>F-(intOf i).toNat)
 case atStart=>exact⟨0,q,bad,none,0,[],by omega,hq,rfl,rfl,KB,KL,dJ _ _ _ _,ag rfl,HX2⟩
 case round=>
  clear hq KB KL HX2;obtain⟨k,q,bad,ad,cp,xs,hk,hq,rfl,rfl,rB,rL,rO,rF,rX⟩:=hrel;obtain⟨y0,y1,y2⟩:=fZ rB;by_cases hlt:k<F
  .cases bad with
   | true=>
    have HC:Hid ((q,false)=X):=rX;go_wp2_with fail
    go_quiet (fail)
    go_wp2_with fail
    go_ret3
    refine⟨?_,below_drewN rL _⟩;rw[HX1.out,<-HC.out];exact ag ⟨rfl,rfl⟩
   | false=>
    clear y0 y1 y2;have HX3:Hid (M.fns s F q ((F-(k+1))+1)=X):=by
     show _=_;rw[<-rX.out,show F-k=(F-(k+1))+1 by omega];rfl
    clear rX;have y2:=(fZ rB).2.2;go_wp2_with fail
    refine(s8 w.heap.size s q 2 8 false 2 8 wr rB HS hq rfl rfl (by omega)).mono ?_;rintro e w3 ⟨R,q1,bad1,rfl,a1,a2,hh,hg,hq1,hc1⟩;have KB3:Hid (w3.heap[w.heap.size]? = some (jc s q1 bad1)):=hh;have KL3:Hid (Below w.heap.size w w3):=rL.trans (jM hg rL.size);have hne:(Value.slice ad k cp).ownBlock=none\/(Value.slice ad k cp).ownBlock≠some w.heap.size:=by
     right;intro e;have:=(rO.lt _ e).1;omega
    have KO3:Hid (w3.ownsRow (w.heap.size+1) 89 2 (.slice ad k cp) k xs):=rO.kept hg hne;have HC1:Hid (J5 s q 2 8 false R q1 bad1):=hc1;clear hh hg rB rL rO y2 hc1;have hgN:w.heap.size<w3.heap.size:=bz KB3;have KV:Hid (∀x,(Value.slice ad k cp).ownBlock=some x->x<w3.heap.size):=λx hx=>(KO3.lt x hx).2;go_wp2_with fail
    refine(s8 w.heap.size s q1 1 200 bad1 1 200 (w3.alloc (.cells #[.int .i64 R,.slice none 0 0] 89)) (ga KB3 _) HS hq1 rfl rfl (by omega)).mono ?_;rintro e w4 ⟨L,q2,bad2,rfl,l1,l2,hh,hg,hq2,hc2⟩;have KB4:Hid (w4.heap[w.heap.size]? = some (jc s q2 bad2)):=hh;have KL4:Hid (Below w.heap.size w w4):=(KL3.alloc (by omega) _).trans (jM hg (by simp;omega));have KO4:Hid (w4.ownsRow (w.heap.size+1) 89 2 (.slice ad k cp) k xs):=(KO3.alloc _).kept hg hne;have KF4:Hid (w4.heap[w3.heap.size]? = some (.cells #[.int .i64 R,.slice none 0 0] 89 (0,0))):=cm hg (bf w3 _) (by intro e;injection e;omega);have HY:Hid (left bad2 q2 (M.code s R F L q2 L)=M.fn s q F):=EV HC1 hc2;clear hh hg KB3 KL3 KO3 HC1 hc2 hq1;generalize w3.heap.size=g at *;go_wp2_with fail
    go_loopw [11] (λi wx=>∃(j q':Nat) (bad':Bool) (ad':Option Addr) (cp':Nat) (ys:List Value),j<=L/\q'<=s.size/\i=.int .i64 j/\Hid (wx.heap[w.heap.size]? = some (jc s q' bad'))/\Hid (wx.heap[g]? = some (.cells #[.int .i64 R,.slice ad' j cp'] 89 (0,0)))/\Hid (wx.ownsRow (g+1) 90 4 (.slice ad' j cp') j ys)/\Hid (wx.ownsRow (w.heap.size+1) 89 2 (.slice ad k cp) k xs)/\Hid (Below w.heap.size w wx)/\Hid (left bad' q' (M.code s R F L q' (L-j))=M.fn s q F)) (λi _=>L-(intOf i).toNat)
    case atStart=>exact⟨0,q2,bad2,none,0,[],by omega,hq2,rfl,KB4,KF4,dJ _ _ _ _,KO4,KL4,HY⟩
    case round=>
     clear KB4 KL4 KO4 KF4 HY hq2;obtain⟨j,q',bad',ad',cp',ys,hj,hq',rfl,sB,sF,sY,sO,sL,sC⟩:=hrel;obtain⟨_,_,y2⟩:=fZ sB;obtain⟨_,d0,d1,e0,e1⟩:=jG sF;by_cases hjl:j<L
     .cases bad' with
      | true=>
       have HYY:Hid (M.fn s q F=(q',!true)):=sC.symm;clear sC;go_wp2_with (at_builtin;refine wpList_append_own _ rfl (.tmp 59) (.tmp 61) 83 rfl (w.heap.size+1) 89 i2 _ 2 32 underlying83 hi2 hz20 hz21 hz22 rfl (by decide) _ _ _ rfl (sO.alloc _) ⟨wr.heap.size,0,none⟩ 1 1 [.int .i64 R,.slice ad' j cp'] rfl rfl ?c1 ?c2 ?c3 ?c4 ?c5 ?_)
       case c1=>exact uP wr _ _ _
       case c2=>intro u hu;simp at hu;rcases hu with rfl|rfl<;>rfl
       case c3=>unfold maxLen;omega
       case c4=>omega
       case c5=>have:=sL.size;simp;omega
       intro v' w6 hown hgrow _;obtain⟨g',cap',rfl⟩:∃g' cap',v'=.slice (some ⟨g',0,none⟩) (k+1) cap':=by
        rcases hown.2 with⟨_,h⟩|⟨g',cap',_,h,_⟩
        .omega
        exact⟨g',cap',h⟩
       have hnN:some w.heap.size≠(Value.slice ad k cp).ownBlock:=by
        intro e;have:=(sO.lt _ e.symm).1;omega
       have KB6:Hid (w6.heap[w.heap.size]? = some (jc s q' true)):=cm hgrow (ga sB _) hnN;have KL6:Hid (Below w.heap.size w w6):=(sL.alloc (by have:=bz sB;omega) _).grown hgrow (by have:=bz sB;simp;omega) (λx hx=>by have:=(sO.lt _ hx).1;omega);have KO6:Hid (w6.ownsRow (w.heap.size+1) 89 2 (.slice (some ⟨g',0,none⟩) (k+1) cap') (k+1) (xs++[.int .i64 R,.slice ad' j cp'])):=hown;have KF6:Hid (uL (xs++[.int .i64 R,.slice ad' j cp']) (k+1)):=rF.more a1 a2 (λe=>by have:=sO.1;rw[e]at this;simpa using this);have KX6:Hid (left true q' (M.fns s F q' (F-(k+1)))=X):=xx HX3 HYY;clear hown hgrow sB sF sY sO sL y2 d0 d1 e0 e1 hnN;go_wp2_with fail
       go_roundw
       case rel=>exact⟨k+1,q',true,some ⟨g',0,none⟩,cap',_,by omega,hq',by go_num,rfl,KB6,KL6,KO6,KF6,KX6⟩
       case measure=>simp[intOf];omega
      | false=>
       have HC5:Hid (M.code s R F L q' ((L-(j+1))+1)=M.fn s q F):=by
        show _=_;rw[<-sC.out,show L-j=(L-(j+1))+1 by omega];rfl
       clear sC;go_wp2_with fail
       refine(Bv w.heap.size s q' R F L R F L wr sB HS hs2 hq' rfl rfl rfl (by omega) f1 a2 f2).mono ?_;rintro e w5 ⟨⟨b0,b1,b2,b3,rfl⟩,hh,hg⟩;have hne':(Value.slice ad' j cp').ownBlock=none\/(Value.slice ad' j cp').ownBlock≠some w.heap.size:=by
        right;intro e;have:=(sY.lt _ e).1;omega
       have KB5:Hid (w5.heap[w.heap.size]? = some (jc s ((M.ins s q' R F L).1:Nat) (!(M.ins s q' R F L).2))):=hh;have KF5:Hid (w5.heap[g]? = some (.cells #[.int .i64 R,.slice ad' j cp'] 89 (0,0))):=cm hg sF (by intro e;injection e;omega);have KY5:Hid (w5.ownsRow (g+1) 90 4 (.slice ad' j cp') j ys):=sY.kept hg hne';have KO5:Hid (w5.ownsRow (w.heap.size+1) 89 2 (.slice ad k cp) k xs):=sO.kept hg hne;have KL5:Hid (Below w.heap.size w w5):=sL.trans (jM hg sL.size);have HC6:=Bb HC5;have HC7:Hid (left (!(M.ins s q' R F L).2) (M.ins s q' R F L).1 (M.code s R F L (M.ins s q' R F L).1 (L-(j+1)))=M.fn s q F):=HC6;have hq5:=(M.yO (s:=s) (p:=q') (r:=R) (f:=F) (l:=L) hq').2;clear hh hg sB sF sY sO sL y2 d0 d1 e0 e1 hne' HC5 HC6;generalize (M.ins s q' R F L).1=q5 at *;generalize (!(M.ins s q' R F L).2)=bad5 at *;obtain⟨hz5,d0,d1,e0,e1⟩:=jG KF5;have hz6:g<w5.heap.size+1:=by omega
       go_wp2_with (at_builtin;refine wpList_append_own _ rfl (.tmp 54) (.tmp 56) 87 rfl (g+1) 90 i1 _ 4 32 underlying87 hi1 hz10 hz11 hz12 rfl (by decide) _ _ _ rfl ((KY5.alloc _).alloc _) ⟨w5.heap.size+1,0,none⟩ 1 1 [.int .i64 b0,.int .i64 b1,.int .i64 b2,.int .i64 b3] rfl rfl ?c1 ?c2 ?c3 ?c4 ?c5 ?_)
       case c1=>exact xN w5 _ _ _ _ _ _
       case c2=>intro u hu;simp at hu;rcases hu with rfl|rfl|rfl|rfl<;>rfl
       case c3=>unfold maxLen;omega
       case c4=>omega
       case c5=>simp;omega
       intro v' w6 hown hgrow _;obtain⟨g',cap',rfl⟩:∃g' cap',v'=.slice (some ⟨g',0,none⟩) (j+1) cap':=by
        rcases hown.2 with⟨_,h⟩|⟨g',cap',_,h,_⟩
        .omega
        exact⟨g',cap',h⟩
       have hnN:∀x,x<g+1->some x≠(Value.slice ad' j cp').ownBlock:=by
        intro x hx e;have:=(KY5.lt _ e.symm).1;omega
       have KB6:Hid (w6.heap[w.heap.size]? = some (jc s q5 bad5)):=cm hgrow (ga (ga KB5 _) _) (hnN _ (by omega));have KF6:Hid (w6.heap[g]? = some (.cells #[.int .i64 R,.slice ad' j cp'] 89 (0,0))):=cm hgrow ((ak _ _ _ (by simp;omega)).trans ((ak _ _ _ hz5).trans KF5)) (hnN _ (by omega));have KL6:Hid (Below w.heap.size w w6):=((KL5.alloc (by omega) _).alloc (by simp;omega) _).grown hgrow (by simp;omega) (λx hx=>by have:=(KY5.lt _ hx).1;omega);have KY6:Hid (w6.ownsRow (g+1) 90 4 (.slice (some ⟨g',0,none⟩) (j+1) cap') (j+1) (ys++[.int .i64 b0,.int .i64 b1,.int .i64 b2,.int .i64 b3])):=hown;have KO6:Hid (w6.ownsRow (w.heap.size+1) 89 2 (.slice ad k cp) k xs):=((KO5.alloc _).alloc _).kept hgrow (by cases hv:(Value.slice ad k cp).ownBlock with|none=>exact ag rfl|some x=>exact ab (hnN x (by have:=KV x hv;omega)));clear hown hgrow KB5 KF5 KY5 KO5 KL5 d0 d1 e0 e1;obtain⟨hz7,d0,d1,e0,e1⟩:=jG KF6;go_wp2_with fail
       go_roundw
       case rel=>exact⟨j+1,q5,bad5,some ⟨g',0,none⟩,cap',_,by omega,hq5,by go_num,gL KB6 (by omega),wD KF6 _,ownsRow_setCell_below KY6 (by show g<g+1;omega) _,KO6.kept (bp (ax w6 (some g)) (ag rfl) _) (by right;intro e;have:=KV _ e;omega),KL6.setCell (by show w.heap.size<=g;omega) _,HC7⟩
       case measure=>simp[intOf];omega
     obtain rfl:j=L:=by omega
     have HYY:Hid (M.fn s q F=(q',!bad')):=by show _=_;rw[<-sC.out,Nat.sub_self];unfold left;cases bad'<;>rfl
     clear sC;go_wp2_with (at_builtin;refine wpList_append_own _ rfl (.tmp 59) (.tmp 61) 83 rfl (w.heap.size+1) 89 i2 _ 2 32 underlying83 hi2 hz20 hz21 hz22 rfl (by decide) _ _ _ rfl (sO.out.alloc _) ⟨wr.heap.size,0,none⟩ 1 1 [.int .i64 R,.slice ad' j cp'] rfl rfl ?c1 ?c2 ?c3 ?c4 ?c5 ?_)
     case c1=>exact uP wr _ _ _
     case c2=>intro u hu;simp at hu;rcases hu with rfl|rfl<;>rfl
     case c3=>unfold maxLen;omega
     case c4=>omega
     case c5=>have:=sL.out.size;simp;omega
     intro v' w6 hown hgrow _;obtain⟨g',cap',rfl⟩:∃g' cap',v'=.slice (some ⟨g',0,none⟩) (k+1) cap':=by
      rcases hown.2 with⟨_,h⟩|⟨g',cap',_,h,_⟩
      .omega
      exact⟨g',cap',h⟩
     have hnN:some w.heap.size≠(Value.slice ad k cp).ownBlock:=by
      intro e;have:=(sO.out.lt _ e.symm).1;omega
     have KB6:Hid (w6.heap[w.heap.size]? = some (jc s q' bad')):=cm hgrow (ga sB.out _) hnN;have KL6:Hid (Below w.heap.size w w6):=(sL.out.alloc (by have:=bz sB.out;omega) _).grown hgrow (by have:=bz sB.out;simp;omega) (λx hx=>by have:=(sO.out.lt _ hx).1;omega);have KO6:Hid (w6.ownsRow (w.heap.size+1) 89 2 (.slice (some ⟨g',0,none⟩) (k+1) cap') (k+1) (xs++[.int .i64 R,.slice ad' j cp'])):=hown;have KF6:Hid (uL (xs++[.int .i64 R,.slice ad' j cp']) (k+1)):=rF.out.more a1 a2 (λe=>by have:=sO.out.1;rw[e]at this;simpa using this);have KX6:Hid (left bad' q' (M.fns s F q' (F-(k+1)))=X):=xx HX3.out HYY.out;clear hown hgrow sB sF sY sO sL y2 d0 d1 e0 e1 hnN;go_wp2_with fail
     go_roundw
     case rel=>exact⟨k+1,q',bad',some ⟨g',0,none⟩,cap',_,by omega,hq',by go_num,rfl,KB6,KL6,KO6,KF6,KX6⟩
     case measure=>simp[intOf];omega
  obtain rfl:k=F:=by omega
  have HC:Hid ((q,!bad)=X):=by show _=_;rw[<-rX.out,Nat.sub_self];unfold left;cases bad<;>rfl
  clear rX
  cases bad with
  | true=>
   go_wp2_with fail
   go_quiet (fail)
   go_wp2_with fail
   go_ret3
   refine⟨?_,below_drewN rL.out _⟩;rw[HX1.out,<-HC.out];exact ag ⟨rfl,rfl⟩
  | false=>
   by_cases hz:q<s.size
   .go_wp2_with fail
    go_quiet (fail)
    go_wp2_with fail
    go_ret3
    refine⟨?_,below_drewN rL.out _⟩;rw[HX1.out,<-HC.out];have hne:decide (q=s.size)=false:=by simp;omega
    refine ag ⟨by simpa using hne,rfl⟩
   have heq:Hid (q=s.size):=by show _=_;omega
   go_wp2_with fail
   go_ret3
   refine⟨?_,rL.out⟩;rw[HX1.out,<-HC.out];have hne:decide (q=s.size)=true:=by simpa using heq.out
   refine ab ⟨by simpa using hne,?_⟩;rcases rO.out.2 with⟨_,h0⟩|⟨g,cap,cur,h0,hb0,hg0,_⟩
   .omega
   simp only[Value.slice.injEq]at h0;obtain⟨rfl,_,rfl⟩:=h0;rcases rF.out with h0|⟨r0,ra,rb,rc⟩
   .omega
   refine⟨⟨g,0,none⟩,k,cp,r0,rfl,f1,ra,rb,?_,rfl,rfl,?_,bz hg0⟩
   .rw[rO.out.cellAt 0 (by omega)];exact rc
   show w.heap.size<=g;omega
