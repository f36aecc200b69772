import Derived.Test.YtnjiinbhbjpfkaaGreatDoorTp
import Derived.Test.YtnjiinbhbjpfkaaGreatDoorTV
import Derived.Test.YtnjiinbhbjpfkaaGreatDoorTS
import Derived.Test.YtnjiinbhbjpfkaaGreatDoorTD
set_option maxRecDepth 100000
set_option maxHeartbeats 0
set_option linter.all false
namespace Go.Proofs.YtnjiinbhbjpfkaaGreatDoor
open Go.RowKit Go.Proofs.Tryz
namespace F
variable {g:eJ}{k t x y:Nat}{p:dL}{s:Pl}{w w':aa}
theorem zY(h:dZ p s g w)(H:fN s x y)(G:x≠5)(u:s.q x y=[]):∃ad c,w.cell? (ay p.eb (ri x y))=some (.slice ad 0 c):=by
 have o:=h.ln H eR;have i:=o.hE.cell _ o.ho;rw[o.e,u]at i;unfold pL at i;grind
def zX(h:dZ p s g w)(Y:LW s){r:List Nat}(G:fN s x y)(W:x≠5)(J:s.q x y=t :: r):∃zb c,w.cell? (ay p.eb (ri x y))=some (dA zb (r.length+1) c)/\w.cell? (ay zb 0)=some (P0 (g.tb t))/\zb<w.heap.size:=by
 have H:=Y.len G;have u:=h.ln G ag;have i:=u.hE.cell _ u.ho;have o:=u.row;rw[u.e]at i;unfold pL at i;rw[au W]at i;rw[J]at i o;obtain⟨zb,c,he⟩:=ee o eB;rw[he]at i o;exact⟨zb,c,i,(gZ o).2.2.2.2.2 0 _ eB,(dP o zb rfl).2.1⟩
def pX(p:dL)(s:Pl)(g:eJ)(w:aa)(t j:Nat)(wr:aa):Prop:=
 ∃s1 g1,Tr p s g w s1 g1 wr/\Ok p s1/\s1.ev.length<=s.ev.length+j/\s1.nt<=s.nt+j/\fm s1 t/\∀s',iu p t (p.qn-j) s1 s'->iu p t p.qn (s.start t) s'
theorem B8{p:dL}{t:Nat}{s:Pl}(h:(s.T t).run=false):∀n,iu p t n s s
 | 0=>rfl
 | n+1=>by unfold iu;grind
def Ja{u:aa}(ht:fm s t)(o:Tr p s g w (s.dz t) g u):Tr p s g w (s.start t) g (u.setCell (ay (g.tb t) 2) (.bool true)):=by
 have i:=(ey (gg s t)).2 ht;refine o.trans (o.r.flag (v:={ (s.dz t).T t with run:=true }) i rfl rfl ?_ (bp (S:=λk=>k=g.tb t) (dw _ _) (af rfl) _));refine((o.r.tk i).eC 2 _).congr (λj G=>?_);have e:∀a,sl ((s.dz t).dx t { (s.dz t).T t with run:=true }) g a t=sl (s.dz t) g a t:=λa=>by
  unfold sl;rw[jX (s:=s.dz t) (s':=(s.dz t).dx t { (s.dz t).T t with run:=true }) rfl rfl rfl rfl rfl (by rw[di]) rfl]
 have y:=oU 6 j ag;rcases y with rfl|rfl|rfl|rfl|rfl|rfl|rfl
 .rfl
 .rw[eN _ _ _ _ ek];exact(e 12).symm
 .rw[gO];show _=Value.bool _;rw[di]
 .rw[eN _ _ _ _ ek];show _=wF p g _;rw[di];rfl
 .rw[eN _ _ _ _ ek];show _=yL g t _;rw[di];rfl
 .rw[eN _ _ _ _ ek];show _=Value.int .i64 _;rw[di];rfl
 rw[eN _ _ _ _ ek];exact(e 5).symm
theorem E7(hPI:PI p){s1 i:Pl}{g1 G:eJ}{wr:aa}{j:Nat}(hj:j<p.qn)(hn:s.nt+p.qn<=500000000)(W:Tr p s g w s1 g1 wr)(y:Ok p s1)(he:s1.ev.length<=s.ev.length+j)(J:s1.nt<=s.nt+j)(ht:fm s1 t)(H:∀s',iu p t (p.qn-j) s1 s'->iu p t p.qn (s.start t) s')(e:(s1.T t).run=true)(u:jz p t s1 i)(o:Tr p s1 g1 wr i G w'):pX p s g w t (j+1) w':=by
 obtain⟨Y,G2⟩:=wL hPI ⟨y,(y.rn t ht e).2,e⟩ ag u;obtain⟨l,l1,l2,l3,_⟩:=id G2;refine⟨i,G,W.trans o,Y,eR,ag,⟨ht.1,gp ht.2⟩,λs' Z=>H s' ?_⟩;rw[show p.qn-j=(p.qn-(j+1))+1 by omega];unfold iu;grind
theorem Cb(h:dZ p s g w)(hP:PW p)(hPI:PI p)(hO:Ok p s)(hn:s.nt+p.qn<=500000000)(aE:p.qn<=50)(aA:s.ev.length<=100): Calls prog 68 #[P0 p.eb] w λe w'=>e=.returned (.tuple #[])/\∃s' g',iS p s s'/\Tr p s g w s' g' w':=by
 have hl:fN s 2 0:=af ⟨rfl,rfl⟩
 cases hq:s.q 2 0 with
 | nil=>
  obtain⟨ad,c,a2⟩:=zY h hl ag hq;have G:w.cell? ⟨p.eb,32,none⟩=some (.slice ad 0 c):=a2;have W:=gL p.eb 32 0 c ad w G;have aD:decide ((0:Nat)=0)=true:=rfl;rw[aD]at W;have a7:=bj W;have HR:Hid (∃s' g',iS p s s'/\Tr p s g w s' g' w):=⟨s,g,by grind[iS],Tr.refl h⟩;clear W aD a2 G h hP hPI hO aA hq hl;go_in;go_wp2_with fail
  refine a7.mono ?_;rintro e w1 ⟨rfl,rfl⟩;go_wp2_with fail
  refine dg (results_none rfl _ _ _) rfl ?_;exact⟨rfl,HR⟩
 | cons t r=>
  have aH:t∈s.q 2 0:=by rw[hq];simp
  have aB:=hO.ql 2 0 hl t aH;have ht:=hO.lt t aB;obtain⟨zb,c,a2,cz,lz⟩:=zX h hO.lw hl ag hq;have G:w.cell? ⟨p.eb,32,none⟩=some (.slice (some ⟨zb,0,none⟩) (r.length+1) c):=a2;have W:=gL p.eb 32 (r.length+1) c (some ⟨zb,0,none⟩) w G;have aM:decide ((r.length+1:Nat)=0)=false:=eB
  rw[aM]at W;have a7:=bj W;have aN:=bj (pQ p.eb 32 r.length c zb (g.tb t) w G cz);have aP:=bj (qL h hO.lw ht);have HP:=bj hP;have aT:=bj hPI;have aS:=bj (hO.start aB);have HT:=bj ht;have HQ:=bj hq;have a4:Hid (s.nt+p.qn<=500000000/\s.ev.length<=100/\p.qn<=50):=⟨hn,aA,aE⟩;have h.E.lt:=h.E.lt;clear W aM a2 G cz lz h hP hPI hO hq hl aH aB hn aA aE;go_in;go_wp2_with fail
  refine a7.mono ?_;rintro e w1 ⟨rfl,rfl⟩;go_wp2_with fail
  refine aN.mono ?_;rintro e w2 ⟨rfl,rfl⟩;go_wp2_with fail
  refine aP.mono ?_;rintro e w3 ⟨rfl,a9⟩;have u:=(ey (gg s t)).2 ht;have a8:=a9.r.tk u;obtain⟨d2,z2⟩:=a8.cells 2 ag;generalize gz p (s.dz t) g t 2=y2 at d2;have aG:=bj a9;clear a8 a9 u;go_wp2_with fail
  have aF:=bj (Ja HT aG);generalize aW:w3.setCell ⟨g.tb t,2,none⟩ (.bool true)=w4 at *;clear aW d2 z2 aG a7 aN aP;have b0:Hid (pX p s g w2 t 0 w4):=by
   obtain⟨f1,_,_,f4,_⟩:=g8 s t;refine⟨s.start t,g,aF,aS,?_,?_,(ey (gg s t)).2 HT,λs' h'=>h'⟩
   .show(s.dz t).ev.length<=_;rw[f4];exact bq _
   show(s.dz t).nt<=_;rw[gg];exact bq _
  have aY:Hid (∀s1 g1 wr,Tr p s g w2 s1 g1 wr->g1.tb t=g.tb t):=λs1 g1 wr J=>J.t t HT;clear aF aS ht;go_loopw [3] (λi wr=>∃j:Nat,j<=p.qn/\i=.int .i64 j/\Hid (pX p s g w2 t j wr)) (λi _=>p.qn-(intOf i).toNat)
  case atStart=>exact⟨0,ag,rfl,b0⟩
  case round=>
   obtain⟨j,hj,rfl,hG⟩:=hrel;obtain⟨s1,g1,J,Y,a5,hn1,u,Z⟩:=hG;have H:=aY s1 g1 wr J;have e1:=J.r.E.cell 1 ag;rw[show iH p s1 g1 1=p.E0 1 from rfl,HP.e1]at e1;have lt:=(J.r.tk u).lt;by_cases o:(s1.T t).run=true
   .have t2:=J.r.run u o;rw[H]at t2;have aO:Hid (Rn p s1 t):=⟨Y,(Y.rn t u o).2,o⟩;by_cases aK:j<p.qn
    .have a3:(j:Int)<p.qn:=ag
     have a1:=Nh J.r HP aT aO (gp a4.out) (gp a4.out);rw[H]at a1;have aQ:=bj a1;have aV:Hid (∀s2 g2 w',jz p t s1 s2->Tr p s1 g1 wr s2 g2 w'->pX p s g w2 t (j+1) w'):=λs2 g2 w' hs a6=>E7 aT aK a4.1 J Y a5 hn1 u Z o hs a6;clear J Y a5 hn1 u Z H a1 o;go_wp2_with fail
     refine aQ.mono ?_;rintro e w5 ⟨rfl,s2,g2,aL,a6⟩;have HG:=bj (aV s2 g2 w5 aL a6);clear aL a6 e1 t2;go_wp2_with fail
     have hw:wrap64 ((j:Int)+1)=((j+1:Nat):Int):=by
      rw[dN ((j:Int)+1) ⟨ag,gp a4.out⟩];omega
     rw[hw];go_roundw
     case rel=>exact⟨j+1,ag,rfl,HG⟩
     case measure=>simp[intOf];omega
    have a3:¬((j:Int)<p.qn):=ag
    have aI:j=p.qn:=ag
    have aR:=vW (x:=2) (y:=0) J.r Y.lw (af ⟨rfl,rfl⟩) u ag (by rw[aO.wh];intro e;cases e);have a0:Calls prog 110 #[Pt p.eb 32,P0 (g1.tb t)] wr λe w'=>e=.returned (.tuple #[])/\∃r,Tr p s1 g1 wr (s1.dY 2 0 t) (g1.at 2 0 r) w':=aR;rw[H]at a0;have aZ:=bj a0;have aX:Hid (∀r w',Tr p s1 g1 wr (s1.dY 2 0 t) (g1.at 2 0 r) w'->∃s' g',iS p s s'/\Tr p s g w2 s' g' w'):=λr w' h'=>by
     refine⟨s1.dY 2 0 t,_,?_,J.trans h'⟩;unfold iS;rw[HQ.out];exact⟨s1,Z s1 (by rw[aI,Nat.sub_self];rfl),by rw[bf o]⟩
    clear J Y a5 hn1 u Z H aR a0 o aI;go_wp2_with fail
    refine aZ.mono ?_;rintro e w6 ⟨rfl,r6,aJ⟩;have HF:=bj (aX r6 w6 aJ);clear aJ e1 t2;go_wp2_with fail
    go_end0;obtain⟨s',g',h1,h2⟩:=HF;exact⟨rfl,by first|exact⟨s',g',h1,h2⟩|exact⟨s',h1,g',h2⟩⟩
   have aC:(s1.T t).run=false:=gG o
   have t2:=J.r.run u aC;rw[H]at t2;have HF:Hid (∃s' g',iS p s s'/\Tr p s g w2 s' g' wr):=by
    refine⟨s1,g1,?_,J⟩;unfold iS;rw[HQ.out];exact⟨s1,Z s1 (B8 aC _),by rw[au o]⟩
   clear J Y a5 hn1 u Z H o aC;by_cases aK:j<p.qn
   .have a3:(j:Int)<p.qn:=ag
    go_wp2_with fail
    go_end0;obtain⟨s',g',h1,h2⟩:=HF;exact⟨rfl,by first|exact⟨s',g',h1,h2⟩|exact⟨s',h1,g',h2⟩⟩
   have a3:¬((j:Int)<p.qn):=ag
   go_wp2_with fail
   go_end0;obtain⟨s',g',h1,h2⟩:=HF;exact⟨rfl,by first|exact⟨s',g',h1,h2⟩|exact⟨s',h1,g',h2⟩⟩
theorem pz{q:Nat->Bool}:∀(l:List Nat) (a:Nat) (r:List Nat),l.dropWhile q=a :: r->q a=false
 | [],a,r,h=>by cases h
 | b :: l,a,r,h=>by
  rw[List.dropWhile_cons]at h;by_cases e:q b=true
  .rw[bf e]at h;exact pz l a r h
  grind
def Oz(p:dL)(s:Pl)(g:eJ)(w:aa)(ys:List Nat)(w1:aa):Prop:=
 ∃zs s1 g1,ys=zs.map g.tb/\Tr p s g w s1 g1 w1/\Ok p s1/\s1.q 3 0=zs/\s1.nt=s.nt/\(∀a,(s1.T a).iM=(s.T a).iM)/\s1.clk=s.clk/\s1.iD zs=s.iD (s.q 3 0)
def Ak(s:Pl)(x y t a:Nat):((s.dY x y t).T a).iM=(s.T a).iM:=by
 by_cases e:a=t
 .subst e;rw[jT];show((s.dz a).T a).iM=_;unfold Pl.dz;split
  .rfl
  rw[di];rfl
 rw[nh s e]
theorem I0(h:dZ p s g w)(hO:Ok p s): eL 67 #[P0 p.eb] w λw'=>∃g',Tr p s g w (s.iD (s.q 3 0)) g' w':=by
 obtain⟨U,hU⟩:∃U:Nat->Int,∀a,fm s a->U (g.tb a)=(s.T a).iM:=by
  classical
  refine⟨λb=>if Z:∃a,fm s a/\g.tb a=b then(s.T Z.choose).iM else 0,λa i=>?_⟩;have Z:∃a',fm s a'/\g.tb a'=g.tb a:=⟨a,i,rfl⟩;show(if Z:∃a',fm s a'/\g.tb a'=g.tb a then(s.T Z.choose).iM else 0)=_;rw[dif_pos Z,h.mC Z.choose_spec.1 i Z.choose_spec.2]
 have H:∀{o:List Nat} {s1:Pl},Ok p s1->s1.q 3 0=o->s1.nt=s.nt->∀a,a∈o->fm s a:=fun {o s1} hO1 hq hn a i=>(ey hn).1 (hO1.lw.b 3 0 (ah (af ⟨rfl,rfl⟩)) a eR).1;refine(KU p.eb s.clk U (Oz p s g w) ((s.q 3 0).map g.tb) w ⟨s.q 3 0,s,g,rfl,Tr.refl h,hO,rfl,rfl,λ_=>rfl,rfl,rfl⟩ ?_ ?_ ?_).mono ?_
 .rintro ys w1 w2 ⟨o,s1,g1,k1,k2,u⟩ hg;exact⟨o,s1,g1,k1,k2.kept hg,u⟩
 .rintro ys w1 ⟨o,s1,g1,rfl,k2,u,J,W,k6,k7,k8⟩;refine⟨k2.r.E.lt,?_,λe=>?_,λx r e=>?_⟩
  .rw[k2.r.E.cell 28 ag];show some (Value.int .i64 s1.clk)=_;rw[k7]
  .have:=List.map_eq_nil_iff.1 e;exact zY k2.r (x:=3) (y:=0) (ah (af ⟨rfl,rfl⟩)) ag eR
  cases o with
  | nil=>cases e
  | cons a Y=>
   injection e with e1 e2;subst e1 e2;have i:=H u J W a eB;have G:=k2.t a i;obtain⟨zb,c,c1,c2,c3⟩:=zX k2.r u.lw (x:=3) (y:=0) (ah (af ⟨rfl,rfl⟩)) ag J;have hT:=k2.r.tk (t:=a) ((ey W).2 i);rw[G]at c2;refine⟨zb,c,eV ef c1,c2,?_,by rw[<-G];exact hT.lt⟩;rw[hU a i,<-k6 a,<-G];exact hT.cell 5 ag
 .rintro x r w1 ⟨o,s1,g1,k1,k2,u,J,W,k6,k7,k8⟩ hx
  cases o with
  | nil=>cases k1
  | cons a Y=>
   injection k1 with e1 e2;subst e1 e2;have i:=H u J W a eB;have G:=k2.t a i;have a1:fN s1 3 0:=ah (af ⟨rfl,rfl⟩);have a3:a∈s1.q 3 0:=by rw[J];simp
   have a0:=(u.lw.b 3 0 a1 a a3).2;have a2:eL 110 #[Pt p.eb 32,P0 (g1.tb a)] w1 λw'=>∃r,Tr p s1 g1 w1 (s1.dY 2 0 a) (g1.at 2 0 r) w':=vW (x:=2) (y:=0) k2.r u.lw (af ⟨rfl,rfl⟩) ((ey W).2 i) ag eR;rw[G]at a2;refine du a2 ?_;rintro w' ⟨r',h'⟩;refine⟨rfl,Y,s1.dY 2 0 a,_,rfl,k2.trans h',u.dY (u.ql 3 0 a1 a a3),?_,(iF s1 2 0 a).trans W,λb=>(Ak s1 2 0 a b).trans (k6 b),(jg s1 2 0 a).2.2.2.2.1.trans k7,?_⟩
   .show((s1.dz a).fF 2 0 ((s1.dz a).q 2 0++[a])).q 3 0=Y;rw[fY _ _ ag,gJ a0];show(s1.fF 3 0 ((s1.q 3 0).erase a)).q 3 0=Y;grind[gH]
   rw[<-k8];show _=(if(s1.T a).iM<=s1.clk then(s1.dY 2 0 a).iD Y else s1);grind
 rintro e w' ⟨rfl,o,s1,g1,k1,k2,u,J,W,k6,k7,k8⟩;refine⟨rfl,g1,?_⟩;have a6:s1.iD o=s1:=by
  cases o with
  | nil=>rfl
  | cons a Y=>
   have i:=H u J W a eB;show(if(s1.T a).iM<=s1.clk then(s1.dY 2 0 a).iD Y else s1)=s1;rw[au (by grind[pz])]
 grind
theorem Jp{b:Nat}(hk:k<4)(hb:b<256)(h:dZ p s g w)(Y:Ok p s): eL 131 #[Pt p.eb (34+k*2),dy (b:Int)] w λw'=>∃g',Tr p s g w (s.qe k b) g' w':=by
 have hl:fN s 4 k:=ah (ah (af ⟨rfl,hk⟩));have ho:ri 4 k=34+k*2+1:=by show 35+2*k=_;omega
 have hv:gY s 10 k 0=true:=Dq ag hk;have hI:lP (34+k*2)=(10,k)/\29<=34+k*2/\34+k*2<44/\34+k*2≠42:=by
  have:k=0\/k=1\/k=2\/k=3:=by omega
  rcases this with rfl|rfl|rfl|rfl<;>decide
 have hE:iH p s g (34+k*2)=.slice (g.ro 10 k).1 (s.ft k).length (g.ro 10 k).2:=by
  unfold iH;rw[eD,eD,eD,hI.1];rfl
 unfold Pl.qe
 cases hq:s.q 4 k with
 | cons u r=>
  obtain⟨zb,c,c1,c2,c3⟩:=zX h Y.lw hl ag hq;rw[ho]at c1
  obtain⟨hu,J⟩:=Y.lw.b 4 k hl u eR;obtain⟨kk,f1,f2,f3⟩:=Y.ww u hu 4 k J (af rfl);have c4:w.cell? (ay (g.tb u) 4)=some (Fv 207 #[P0 (g.sx u)]):=by
   rw[(h.tk hu).cell 4 ag];show some (yL g u (s.T u).lf)=_;rw[f1];rfl
  refine Ch p.eb (34+k*2) r.length c zb (g.tb u) (g.sx u) b _ w c1 c2 c4 hb (h.tk hu).lt h.E.lt c3 (λw1 hg=>?_);refine du (Il (0,(b:Int)) (h.kept hg) Y.lw hu f1 f2 f3 eR) ?_;rintro w' ⟨r',h'⟩;exact⟨rfl,_,h'.ahead hg⟩
 | nil=>
  obtain⟨i,c',c1⟩:=zY h hl ag hq;rw[ho]at c1;have a3:iH p s g (34+k*2+1)=.slice i 0 c':=by
   have:=h.E.cell (34+k*2+1) ag;rw[c1]at this;exact(ki this).symm
  by_cases o:(s.ft k).length<64
  .have H:w.ownsRow 0 5 1 (.slice (g.ro 10 k).1 (s.ft k).length (g.ro 10 k).2) (s.ft k).length (iI (s.ft k)):=h.row (x:=10) (y:=k) (by grind[fe]) hv;refine du (Cg p.eb (34+k*2) 44 (s.ft k).length (g.ro 10 k).2 c' b 144 (g.ro 10 k).1 i (s.ft k) (iH p s g) w h.E ag hE a3 H o (λj G=>eU H h.E ek j G)) ?_;rintro w' ⟨gb,cc,k1,k2,k3,k4⟩;have W:(s.fO k (s.ft k++[b])).ft k=s.ft k++[b]:=bf rfl;have Z:eS (s.fO k (s.ft k++[b])) 10 k=(s.ft k).length+1:=by show((s.fO k (s.ft k++[b])).ft k).length=_;rw[W,cw];rfl
   have a0:gu (s.fO k (s.ft k++[b])) g 10 k=iI (s.ft k++[b]):=by show iI ((s.fO k (s.ft k++[b])).ft k)=_;rw[W]
   refine⟨rfl,g.at 10 k (some (ay gb 0),cc),?_⟩;show Tr p s g w (if(s.ft k).length<64 then s.fO k (s.ft k++[b]) else s) (g.at 10 k (some (ay gb 0),cc)) w';rw[bf o];exact h.uS (s':=s.fO k (s.ft k++[b])) (r:=(some (ay gb 0),cc)) (j0:=34+k*2) ag hv hI rfl rfl rfl rfl rfl rfl rfl (λa b' _ _ e=>yq k _ a b' e) eR (by rw[Z,a0];exact k2) (k3.mono (λj G _=>by grind[kC])) (λj G=>by
    have e:gb=j:=by injection G
    grind[kC])
  have c0:w.cell? (ay p.eb (34+k*2))=some (.slice (g.ro 10 k).1 (s.ft k).length (g.ro 10 k).2):=by
   rw[h.E.cell _ ag,hE]
  refine du (Ci p.eb (34+k*2) (s.ft k).length (g.ro 10 k).2 c' b (g.ro 10 k).1 i w c0 c1 ag (Y.bt k).1) ?_;rintro w' rfl;refine⟨rfl,g,?_⟩;show Tr p s g w' (if(s.ft k).length<64 then s.fO k (s.ft k++[b]) else s) g w';rw[au o];exact Tr.refl h
def J4{z:Nat}(h:(ob p s.ns (g.at 9 0 (none,0)) x y z).bs k):(ob p s g x y z).bs k/\¬(x=9/\y=0/\z=0):=by
 by_cases i:gY s x y z=true
 .rw[hZ (show gY s.ns x y z=true from i)]at h;rw[hZ i];by_cases u:fe x
  .rw[g9 u]at h ⊢;have o:fi ((g.at 9 0 (none,0)).ro x y).1=some k:=h;by_cases e:x=9/\y=0
   .rw[e.1,e.2,td]at o
    cases o
   rw[lG g _ e]at o;exact⟨o,λG=>e ⟨G.1,G.2.1⟩⟩
  have J:=rJ i;have H:x=0\/x=1\/x=11\/x=13\/x=14\/x=15\/x=16\/x=17\/x=18:=by unfold fe at u;omega
  rcases H with rfl|rfl|rfl|rfl|rfl|rfl|rfl|rfl|rfl<;>exact⟨h,ag⟩
 rw[vw (show ¬gY s.ns x y z=true from i)]at h;exact h.elim
def NL(h:dZ p s g w):Tr p s g w s.ns (g.at 9 0 (none,0)) (w.setCell (ay p.eb 43) (.slice none 0 0)):=by
 refine h.uS (s':=s.ns) (x:=9) (y:=0) (r:=(none,0)) (j0:=43) ag (iV ag) ek rfl rfl rfl rfl rfl rfl rfl (λa b c d e=>AW _ a b c d e) (h.E.eC 43 _) (eg _ _ _ _) (bp (S:=λk=>k=p.eb\/fi (g.ro 9 0).1=some k) (dw _ _) (af (af rfl)) _) (λk i=>?_)
 cases i
theorem Lx(h:dZ p s g w)(c:Int):Tr p s g w (s.gr c) g (w.setCell (ay p.eb 28) (aj c)):=by
 refine h.zm (s':=s.gr c) rfl rfl rfl rfl rfl (λa b=>⟨rfl,rfl⟩) ?_ (bp (S:=λk=>k=p.eb) (dw _ _) (af rfl) _);refine(h.E.eC 28 _).congr (λj o=>?_);by_cases e:j=28
 .subst e;rw[gO];rfl
 rw[eN _ _ _ _ e];unfold iH;by_cases i:j<28
 .grind
 rw[au i,au i,au e,au e];rfl
def xF(p:dL)(s:Pl)(g:eJ)(w:aa)(s':Pl)(w':aa)(v:Value):Prop:=
 ∃g' ad c,v=.slice ad s'.ev.length c/\w'.ownsRow 0 48 3 (.slice ad s'.ev.length c) s'.ev.length (mA s'.ev)/\Tr p s g w s'.ns g' w'/\∀k,fi ad=some k->¬eH p s'.ns g' k/\k<w'.heap.size/\(eH p s g k\/w.heap.size<=k)
theorem xX{s':Pl}{g':eJ}(u:Tr p s g w s' g' w'):xF p s g w s' (w'.setCell (ay p.eb 43) (.slice none 0 0)) (sl s' g' 9 0):=by
 have o:w'.ownsRow 0 48 3 (.slice (g'.ro 9 0).1 s'.ev.length (g'.ro 9 0).2) s'.ev.length (mA s'.ev):=u.r.row (x:=9) (y:=0) (by grind[fe]) (iV ag);have G:∀k,fi (g'.ro 9 0).1=some k->(ob p s' g' 9 0 0).bs k:=λk e=>by
  grind[gQ,fe,iV]
 refine⟨g'.at 9 0 (none,0),(g'.ro 9 0).1,(g'.ro 9 0).2,rfl,dQ o (λk e=>ab _ _ _ _ ((λk e=>eU o u.r.E ek k e) k e)),u.trans (NL u.r),λk e=>⟨?_,?_,u.m k ⟨9,0,0,G k e⟩⟩⟩
 .rintro⟨x,y,z,Y⟩;obtain⟨W,Z⟩:=J4 Y;have G:=G k e;exact Z (u.r.i _ _ _ _ _ _ k W G)
 have:=(dP o k (by grind[dF])).2.1;simp_all
theorem Ff{aQ:Option Addr}{n0 c0:Nat}{l:List (Int×Nat)}(ticks:Int)(h:dZ p s g w)(hP:PW p)(hPI:PI p)(hO:Ok p s)(he:s.ev=[])(hn:s.nt+p.qn<=500000000)(aG:p.qn<=50)(aI:p.wk<=50)(aR:∀x,x∈l->x.2<256)(aS:∀s1 g1 w1,Tr p s g w s1 g1 w1->Ok p s1->eL 65 #[P0 p.eb,.slice aQ n0 c0] w1 λw'=>∃g',Tr p s1 g1 w1 (s1.fh l) g' w'): Calls prog 41 #[P0 p.eb,aj ticks,.slice aQ n0 c0] w λe w'=>∃v s',e=.returned v/\ku p s ticks l s'/\xF p s g w s' w' v:=by
 obtain⟨aK,b7⟩:=h.E.cells 28 ag;have aD:w.cell? (ay p.eb 28)=some (aj s.clk):=aK;have le:=h.E.lt;have aV:=bj (wD p.eb s.clk ticks w aD hO.c0 hO.c1);have a2:=B.xD (t:=ticks) hO.c0 hO.c1;have hC:Ok p (s.gr (B.iJ s.clk ticks)):=hO.gr a2.1 a2.2;obtain⟨aJ,aL⟩:=nS l aR hC;have aE:=Lx h (B.iJ s.clk ticks);have aM:=bj (aS _ _ _ aE hC);have b8:=bj aE;have aW:=bj aJ;have HQ:=bj aL;have HP:=bj hP;have aX:=bj hPI;have a1:Hid (s.nt+p.qn<=500000000/\s.ev=[]/\p.qn<=50/\p.wk<=50):=⟨hn,he,aG,aI⟩;have a4:Hid (∀s',(if((s.gr (B.iJ s.clk ticks)).fh l).lv≠[]/\((s.gr (B.iJ s.clk ticks)).fh l).sp=false then ∃s1,iS p (((s.gr (B.iJ s.clk ticks)).fh l).iD (((s.gr (B.iJ s.clk ticks)).fh l).q 3 0)) s1/\s'=s1.jr p else s'=(s.gr (B.iJ s.clk ticks)).fh l)->ku p s ticks l s'):=λ_ h=>h;clear aK h hP hPI hO he hn aG aI aR aS a2 hC aJ aL aE;generalize b0:(s.gr (B.iJ s.clk ticks)).fh l=s1 at *;generalize b1:B.iJ s.clk ticks=cc at *;have aH:Hid (s1.nt=s.nt):=jx HQ.out.nt
 have b5:Hid (s1.ev=[]):=eV HQ.out.ev a1.out.2.1
 clear b0 b1;go_in;go_wp2_with fail
 refine du aV ?_;rintro w1 rfl;go_wp2_with fail
 generalize b6:w1.setCell (ay p.eb 28) (aj cc)=w2 at *;clear b6 aD b7 aV;refine du aM ?_;rintro w3 ⟨g3,J⟩;have o:=b8.out.trans J;have bF:=o.r.E.lt;have aB:w3.cell? (ay p.eb 29)=some (.slice (g3.ro 6 0).1 s1.lv.length (g3.ro 6 0).2):=o.r.E.cell 29 ag;have u:=vT p.eb s1.lv.length (g3.ro 6 0).2 (g3.ro 6 0).1 w3 aB;have a7:w3.cell? (ay p.eb 42)=some (.bool s1.sp):=o.r.E.cell 42 ag;obtain⟨a5,aT⟩:=o.r.E.cells 43 ag;have aP:w3.cell? (ay p.eb 43)=some (.slice (g3.ro 9 0).1 s1.ev.length (g3.ro 9 0).2):=a5;by_cases i:s1.lv≠[]/\s1.sp=false
 .have y:decide (0<s1.lv.length)=true:=by
   have:s1.lv.length≠0:=λe=>i.1 (db.1 e);exact fp ag
  rw[y]at u;rw[i.2]at a7;have Z:=bj u;have b3:=bj i;have aZ:=bj o;have HW:=bj (I0 o.r aW.out);clear u y i o J aB a5 aP aT;go_wp2_with fail
  refine du Z ?_;rintro w4 rfl;go_wp2_with fail
  refine du HW ?_;rintro w5 ⟨g5,a8⟩;obtain⟨o5,q5⟩:=oX (s1.q 3 0) aW.out rfl;have aO:=bj (aZ.out.trans a8);have aN:=bj (Cb a8.r HP.out aX.out o5 (by rw[q5.nt,aH.out];exact a1.out.1) a1.out.2.2.1 (by rw[q5.ev,b5.out];simp));have aF:Hid (∀H,iS p (s1.iD (s1.q 3 0)) H->Ok p H):=λH h6=>(uP aX.out o5 (by rw[q5.nt,aH.out];exact a1.out.1) h6).1;clear a8 o5 q5 HW Z a7;go_wp2_with fail
  refine du aN ?_;rintro w6 ⟨H,g6,aA,a0⟩;have a3:=aO.out.trans a0;have k2:w6.cell? (ay p.eb 2)=some (aj p.wk):=by
   rw[a0.r.E.cell 2 ag];show some (p.E0 2)=_;rw[HP.out.e2]
  have bC:=a0.r.Hn HP.out;have b2:=bj a3;have aU:=bj aA;have b4:=bj (KH (a3.r.kept (bo (aw w6 none))) HP.out (aF.out H aA) a1.out.2.2.2);clear a0 a3 aA aN aF aO;go_wp2_with fail
  go_cut [] from 30 to 38 (λwx=>Hid (∃g7,Tr p s g w1 (H.jr p) g7 wx))
  case first=>
   go_region_with (go_at_call 69;refine du b4 ?_;rintro w7 ⟨g7,G⟩;have a9:Hid (∃g7,Tr p s g w1 (H.jr p) g7 w7):=⟨g7,(b2.out.kept (bo (aw w6 none))).trans G⟩;clear G)
   all_goals
    go_wp2_with fail
    go_meet
    case rel=>exact a9
  case rest=>
   have a9:=hcut;obtain⟨g7,G⟩:=a9.out;have Y:=bj (xX G);obtain⟨aY,aT⟩:=G.r.E.cells 43 ag;have b9:wc.cell? (ay p.eb 43)=some (.slice (g7.ro 9 0).1 (H.jr p).ev.length (g7.ro 9 0).2):=aY;have W:Hid (ku p s ticks l (H.jr p)):=a4.out _ (by rw[bf b3.out];exact⟨H,aU.out,rfl⟩);clear aY G a9 hcut a4 aU;go_wp2_with fail
   go_ret;exact⟨_,H.jr p,rfl,W.out,Y.out⟩
 have Y:=bj (xX o);have W:=bj (a4.out _ (by rw[au i]));by_cases aC:s1.lv.length=0
 .have y:decide (0<s1.lv.length)=false:=jx aC
  rw[y]at u;have Z:=bj u;clear u y i o J aB a5 a4 a7;go_wp2_with fail
  refine du Z ?_;rintro w4 rfl;go_wp2_with fail
  go_ret;exact⟨_,s1,rfl,W.out,Y.out⟩
 have y:decide (0<s1.lv.length)=true:=fp ag;have a6:s1.sp=true:=by
  cases a6:s1.sp with
  | true=>rfl
  | false=>exact dp ⟨λe=>aC (jx e),a6⟩ i
 rw[y]at u;rw[a6]at a7;have Z:=bj u;clear u y i o J aB a5 a4 a6;go_wp2_with fail
 refine du Z ?_;rintro w4 rfl;go_wp2_with fail
 go_ret;exact⟨_,s1,rfl,W.out,Y.out⟩
end F
namespace F
theorem jD(a:Addr)(m:Nat):(a.add m).block=a.block:=by grind[Addr.add]
def MV(w:aa)(ad:Option Addr)(n:Nat)(l:List (Int×Nat))(F:Nat->Prop):Prop:=
 n=l.length/\n<=1000000000/\(∀x,x∈l->x.2<256)/\(ad=none->l=[])/\∀a,ad=some a->l≠[]->a.block<w.heap.size/\¬F a.block/\∀j x,l[j]? = some x->w.cell? (a.add (j*2))=some (.int .i64 x.1)/\w.cell? (a.add (j*2+1))=some (.int .u8 (x.2:Int))
theorem Jo{p:dL}{s:Pl}{g:eJ}{w:aa}{ad:Option Addr}{n:Nat}(c:Nat){l:List (Int×Nat)}(h:dZ p s g w)(hO:Ok p s)(hI:MV w ad n l (eH p s g)): eL 65 #[P0 p.eb,.slice ad n c] w λw'=>∃g',Tr p s g w (s.fh l) g' w':=by
 obtain⟨hn,J,hx,ha,hC⟩:=hI;refine(D8 p.eb ad n c l (λys w1=>∃s1 g1,Tr p s g w s1 g1 w1/\Ok p s1/\s1.fh ys=s.fh l/\∀x,x∈ys->x.2<256) w ⟨s,g,Tr.refl h,hO,rfl,hx⟩ hn J ha ?_ ?_ ?_ ?_ ?_).mono ?_
 .rintro ys w1 ⟨s1,g1,k1,k2,i,_⟩ a rfl j x G;obtain⟨b1,Z,b3⟩:=hC a rfl (λe=>by grind);have e:=k1.o.same b1 Z;grind[World.cell?_of_block,jD]
 .rintro ys w1 w2 ⟨s1,g1,k1,k2,i⟩ hg;exact⟨s1,g1,k1.kept hg,k2,i⟩
 .rintro ys w1 ⟨s1,g1,k1,_⟩;exact k1.r.E.lt
 .rintro x r w1 ⟨s1,g1,k1,k2,i,u⟩ hz;have Y:=u x eB;refine du (Jp (k:=x.1.toNat) (b:=x.2) ag Y k1.r k2) ?_;rintro w' ⟨g',k5⟩;refine⟨rfl,s1.qe x.1.toNat x.2,g',k1.trans k5,(yr ag Y k2).1,?_,λy H=>u y (by simp[H])⟩;rw[<-i];show _=(s1.recv x).fh r;unfold Pl.recv;grind
 .rintro x r w1 ⟨s1,g1,k1,k2,i,u⟩ hz;refine⟨s1,g1,k1,k2,?_,λy H=>u y (by simp[H])⟩;rw[<-i];show _=(s1.recv x).fh r;unfold Pl.recv;rw[au hz]
 rintro e w' ⟨rfl,s1,g1,k1,k2,i,_⟩;refine⟨rfl,g1,?_⟩;rw[<-i];exact k1
structure tS(p:dL) (s:Pl) (g:eJ) (mb:Nat) (w:aa):Prop where
 r:dZ p s g w
 ok:Ok p s
 ev:s.ev=[]
 bx:∃x,w.heap[mb]? = some (.cells #[.int .i32 0,x,P0 p.eb] 105 (0,0))
 nm:¬eH p s g mb
structure ME(p:dL):Prop where
 pw:PW p
 pi:PI p
 q:p.qn<=50
 k:p.wk<=50
section
variable {p:dL}{s:Pl}{g:eJ}{mb:Nat}{w:aa} (h:tS p s g mb w)
include h
theorem tS.cells:w.cell? (ay mb 0)=some (.int .i32 0)/\w.frozen? (ay mb 0)=false/\w.cell? (ay mb 2)=some (P0 p.eb)/\mb<w.heap.size:=by
 grind[World.cell?,World.frozen?,ch,F.tS.bx]
def tS.lock:dZ p s g (w.setCell (ay mb 0) (.int .i32 1)):=h.r.only (S:=λk=>k=mb) (bp (S:=λk=>k=mb) (dw _ _) (af rfl) _) (λ_ i e=>h.nm (e▸i))
theorem tS.sQ{w':aa}(i:w'.heap[mb]? = (w.setCell (ay mb 0) (.int .i32 1)).heap[mb]?):w'.cell? (ay mb 0)=some (.int .i32 1)/\w'.frozen? (ay mb 0)=false/\∃x,(w'.setCell (ay mb 0) (.int .i32 0)).heap[mb]? = some (.cells #[.int .i32 0,x,P0 p.eb] 105 (0,0)):=by
 obtain⟨x,o⟩:=h.bx;have u:(w.setCell (ay mb 0) (.int .i32 1)).heap[mb]? = some (.cells #[.int .i32 1,x,P0 p.eb] 105 (0,0)):=by
  simp[World.setCell,dh,o]
 grind[World.cell?,World.frozen?,World.setCell]
end
variable {g:eJ}{mb:Nat}{p:dL}{s:Pl}{w:aa}
theorem dZ.off(h:dZ p s g w)(hn:¬eH p s g mb)(o:Nat)(v:Value):dZ p s g (w.setCell (ay mb o) v):=h.only (S:=λk=>k=mb) (bp (S:=λk=>k=mb) (dw _ _) (af rfl) _) (λ_ i e=>hn (e▸i))
structure zC(p:dL) (s:Pl) (g:eJ) (mb:Nat) (w:aa) (s':Pl) (g':eJ) (w':aa):Prop where
 m:tS p s' g' mb w'
 o:dM (λk=>eH p s g k\/k=mb) w w'
 n:∀k,eH p s' g' k->eH p s g k\/w.heap.size<=k
theorem tS.Dw{ad:Option Addr}{n:Nat}(c:Nat){l:List (Int×Nat)}(ticks:Int)(h:tS p s g mb w)(hP:ME p)(hn:s.nt+p.qn<=500000000)(hI:MV w ad n l (λk=>eH p s g k\/k=mb)): Calls prog 24 #[P0 mb,aj ticks,.slice ad n c] w λe w'=>∃s' g' G Y,e=.returned (.slice G s'.ev.length Y)/\ku p s ticks l s'/\w'.ownsRow 0 48 3 (.slice G s'.ev.length Y) s'.ev.length (mA s'.ev)/\zC p s g mb w s'.ns g' w'/\∀k,fi G=some k->¬eH p s'.ns g' k/\k≠mb/\k<w'.heap.size/\(eH p s g k\/w.heap.size<=k):=by
 obtain⟨c0,f0,c2,lm⟩:=h.cells;obtain⟨i1,i2,i3,i4,i5⟩:=hI;have a2:dM (λk=>eH p s g k\/k=mb) w (w.setCell (ay mb 0) (.int .i32 1)):=bp (S:=λk=>eH p s g k\/k=mb) (dw _ _) (af (ah rfl)) _;have i:(w.setCell (ay mb 0) (.int .i32 1)).heap.size=w.heap.size:=by simp[World.setCell]
 refine(zL mb p.eb n c ad ticks w c0 f0 c2 (λv w'=>∃s',ku p s ticks l s'/\xF p s g (w.setCell (ay mb 0) (.int .i32 1)) s' w' v) ?_).mono ?_
 .refine(Ff (l:=l) ticks h.lock hP.pw hP.pi h.ok h.ev hn hP.q hP.k i3 (λs1 g1 w1 H a3=>?_)).mono ?_
  .refine Jo c H.r a3 ⟨i1,i2,i3,i4,λa ha a4=>?_⟩;obtain⟨b1,b2,b3⟩:=i5 a ha a4;have e1:=(H.o.same ag (λhm=>b2 (af hm))).trans (a2.same b1 b2);grind[Nat.lt_of_lt_of_le,World.cell?_of_block,jD,dM.size,F.Tr.o,F.Tr.m]
  rintro e w' ⟨v,s',rfl,ht,g',G,Y,rfl,k2,J,k4⟩;have hb:=J.o.same ag h.nm;obtain⟨l1,l2,_⟩:=h.sQ hb;exact⟨G,_,Y,rfl,l1,l2,s',ht,g',G,Y,rfl,k2,J,k4⟩
 rintro e w' ⟨v,w1,rfl,⟨s',ht,g',G,Y,rfl,k2,J,k4⟩,rfl⟩;have hb:=J.o.same (eV i lm) h.nm;obtain⟨_,_,l3⟩:=h.sQ hb;have a0:¬eH p s'.ns g' mb:=λhm=>(J.m mb hm).elim h.nm (λy=>by rw[i]at y;omega);have a1:∀k,fi G=some k->k≠mb:=λk u e=>by
  have W:=dP k2 k (eV dF u);have Z:=hb;obtain⟨x0,a5⟩:=h.bx;have y:(w.setCell (ay mb 0) (.int .i32 1)).heap[mb]? = some (.cells #[.int .i32 1,x0,P0 p.eb] 105 (0,0)):=by simp[World.setCell,dh,a5]
  rw[y]at Z;rw[e]at W;obtain⟨_,_,q0⟩:=W;obtain⟨a6,q1⟩:=q0;rw[Z]at q1;injection q1 with q1;injection q1 with _ q2 _;exact dp q2 ek
 refine⟨s',g',G,Y,rfl,ht,dQ k2 (λk u=>ab _ _ _ _ (a1 k (by rw[<-dF];exact u))),⟨⟨J.r.off a0 0 _,?_,rfl,l3,a0⟩,?_,λk u=>(J.m k u).imp id (λy=>by rw[i]at y;exact y)⟩,λk u=>⟨(k4 k u).1,a1 k u,by have:=(k4 k u).2.1;simpa[World.setCell] using this,by have:=(k4 k u).2.2;rw[i]at this;exact this⟩⟩
 .exact(pE hP.pi hP.pw.n1 h.ok h.ev hn i3 ht).ok
 exact bp (a2.trans J.o (λk u _=>af u)) (af (ah rfl)) _
end F
namespace F
variable {ev:List tU}{f:jc}{g:eJ}{j k mb:Nat}{p:dL}{s s':Pl}{w:aa}
def Jr(h:dZ p s g w)(hO:Ok p s): dD 43 #[P0 p.eb] w (dA w.heap.size (s.q 2 0).length (s.q 2 0).length) λw'=>w'.ownsRow w.heap.size 3 1 (dA w.heap.size (s.q 2 0).length (s.q 2 0).length) (s.q 2 0).length ((s.q 2 0).map (λt:Nat=>Value.int .i64 t))/\w.grownBy w' none:=by
 have hl:fN s 2 0:=af ⟨rfl,rfl⟩;have a2:=hO.lw.len hl;have i:=λu y=>(hO.lw.b 2 0 hl u y).1;obtain⟨Y,W⟩:∃Y:Nat->Int,∀u,fm s u->Y (g.tb u)=(u:Int):=by
  classical
  refine⟨λb=>if H:∃u,fm s u/\g.tb u=b then(H.choose:Int) else 0,λu y=>?_⟩;have H:∃u',fm s u'/\g.tb u'=g.tb u:=⟨u,y,rfl⟩;show(if H:∃u',fm s u'/\g.tb u'=g.tb u then(H.choose:Int) else 0)=(u:Int);rw[dif_pos H,h.mC H.choose_spec.1 y H.choose_spec.2]
 have hL:=h.ln hl ag;have a0:dS w p.eb 32=some (.slice (g.ro 2 0).1 (s.q 2 0).length (g.ro 2 0).2):=by
  have:=hL.hE.cell _ hL.ho;rw[hL.e]at this;exact this
 obtain⟨G,J⟩:∃G,s.q 2 0≠[]->(g.ro 2 0).1=some (ay G 0)/\G<w.heap.size/\∀j x,((s.q 2 0).map g.tb)[j]? = some x->dS w G j=some (P0 x):=by
  by_cases e:s.q 2 0=[]
  .exact⟨0,λh=>dp e h⟩
  have hr:=hL.row;obtain⟨G,lc,he⟩:=ee hr (by exact λe'=>e (db.1 e'));rw[he]at hr;injection he with a1 _ _;exact⟨G,λ_=>⟨a1,(dP hr G rfl).2.1,λj x o=>(gZ hr).2.2.2.2.2 j (P0 x) (by rw[eP,o];rfl)⟩⟩
 have Z:∀{j:Nat} {x:Nat},((s.q 2 0).map g.tb)[j]? = some x->s.q 2 0≠[]:=λo e=>by rw[e]at o;simp at o
 refine(Js p.eb G (g.ro 2 0).2 (s.q 2 0).length (g.ro 2 0).1 Y ((s.q 2 0).map g.tb) w a0 h.E.lt (by rw[ef]) ag (λj x o=>⟨(J (Z o)).1,(J (Z o)).2.2 j x o⟩) (λe=>(J (λe'=>e (jx e'))).2.1) (λx o=>?_)).mono ?_
 .obtain⟨u,y,rfl⟩:=eK.1 o;have hT:=h.tk (i u y);refine⟨?_,hT.lt⟩;rw[hT.cell 0 ag,W u (i u y)];rfl
 rintro e w' ⟨rfl,k1,k2⟩;refine⟨rfl,?_,k2⟩;have:((s.q 2 0).map g.tb).map (λx=>Value.int .i64 (Y x))=(s.q 2 0).map (λt:Nat=>Value.int .i64 t):=by
  rw[List.map_map];refine List.map_congr_left (λu y=>?_);show Value.int .i64 (Y (g.tb u))=_;rw[W u (i u y)]
 rw[this]at k1;exact k1
def tS.queue(h:tS p s g mb w): dD 26 #[P0 mb] w (dA w.heap.size (s.q 2 0).length (s.q 2 0).length) λw'=>w'.ownsRow w.heap.size 3 1 (dA w.heap.size (s.q 2 0).length (s.q 2 0).length) (s.q 2 0).length ((s.q 2 0).map (λt:Nat=>Value.int .i64 t))/\zC p s g mb w s g w':=by
 obtain⟨c0,H,Y,G⟩:=h.cells;have i:(w.setCell (ay mb 0) (.int .i32 1)).heap.size=w.heap.size:=by simp[World.setCell]
 refine(zW mb p.eb w c0 H Y (λv w'=>v=dA w.heap.size (s.q 2 0).length (s.q 2 0).length/\w'.ownsRow w.heap.size 3 1 (dA w.heap.size (s.q 2 0).length (s.q 2 0).length) (s.q 2 0).length ((s.q 2 0).map (λt:Nat=>Value.int .i64 t))/\(w.setCell (ay mb 0) (.int .i32 1)).grownBy w' none) ?_).mono ?_
 .have:=Jr h.lock h.ok;rw[i]at this;refine du this ?_;rintro w' ⟨k1,k2⟩;have y:=k2.block mb (eV i G) im;obtain⟨W,J,_⟩:=h.sQ y;exact⟨_,_,_,rfl,W,J,rfl,k1,k2⟩
 rintro e w' ⟨v,w1,rfl,⟨rfl,k1,k2⟩,rfl⟩;have y:=k2.block mb (eV i G) im;obtain⟨_,_,Z⟩:=h.sQ y;refine⟨rfl,dQ k1 (λk o=>ab _ _ _ _ ?_),⟨(h.lock.kept k2).off h.nm 0 _,h.ok,h.ev,Z,h.nm⟩,bp ((bp (S:=λk=>eH p s g k\/k=mb) (dw _ _) (af (ah rfl)) _).iW k2) (af (ah rfl)) _,λk o=>af o⟩;have e:w.heap.size=k:=by injection o
 show k≠mb;omega
def JB(h:eH p oj F0 k):k=p.eb\/k=p.sb\/k=p.pb\/p.fx k:=by
 obtain⟨x,y,z,o⟩:=h;by_cases i:gY oj x y z=true
 .rw[hZ i]at o;have J:=rJ i;by_cases G:fe x
  .rw[g9 G]at o
   cases o
  have H:x=0\/x=1\/x=11\/x=13\/x=14\/x=15\/x=16\/x=17\/x=18:=by unfold fe at G;omega
  repeat' rcases H with rfl|H
  .exact af o
  .rcases o with e|e|⟨_,_,_,e,_⟩|⟨e,_⟩
   .omega
   .omega
   .cases e
   cases e
  .have:=(kj i ag).1;have e:=this.1;have u:y<=0:=this.2;omega
  .have:=(nA i ag).1;have e:=this.1;have u:y<=0:=this.2;omega
  .have:=(nA i ag).1;have e:=this.1;have u:y<=0:=this.2;omega
  .have:=(kj i ag).1;have e:=this.1;have u:y<=0:=this.2;omega
  .have:=(kj i ag).1;have e:=this.1;have u:y<=0:=this.2;omega
  .have:=(mg i).1;have e:=this.1;have u:y<=0:=this.2;omega
  exact ah (ah (ah o))
 rw[vw i]at o;exact o.elim
structure tg(p:dL) (tx:ByteArray) (c0 c1 c2 c3:Int):Prop where
 n:(p.n:Int)=c0
 qn:(p.qn:Int)=c1
 wk:(p.wk:Int)=c2
 mt:(p.mt:Int)=c3
 nf:p.nf=M.bt tx 0
 rg:∀k,p.rg k=M.bt tx (M.pos tx k)
 len:∀k,p.len k=M.bt tx (M.pos tx k+1)
 ins:∀k i,p.ins k i=rj tx (M.pos tx k+2+4*i)
def IQ(tx:ByteArray)(c0 c1 c2 c3:Int)(z eb:Nat)(w3:aa):Prop:=∃p s g,p.eb=eb/\ME p/\dZ p s g w3/\Ok p s/\s=oj.born 0 (0,0) (0,0)/\tg p tx c0 c1 c2 c3/\∀k,eH p s g k->z<=k/\k<w3.heap.size
theorem JD(s:ByteArray)(c0 c1 Y W:Int)(w:aa)(hs:s.size<=maxLen)(hT:og w): Calls prog 23 #[.string s,.agg #[aj c0,aj c1,aj Y,aj W]] w λe w'=>Below w.heap.size w w'/\((∃x y:Int,e=.returned (.tuple #[.pointer none,.agg #[aj x,aj y]])/\¬(uA c0 c1 Y W=true/\(M.m9 s).2=true))\/∃(mb:Nat) (p:dL) (g:eJ),e=.returned (.tuple #[P0 mb,.agg #[aj 0,aj 0]])/\ME p/\tS p (oj.born 0 (0,0) (0,0)) g mb w'/\tg p s c0 c1 Y W/\∀k,eH p (oj.born 0 (0,0) (0,0)) g k\/k=mb->w.heap.size<=k/\k<w'.heap.size):=by
 refine(vS s c0 c1 Y W w hs hT (IQ s c0 c1 Y W (w.heap.size+2)) ?_).mono ?_
 .intro aF a1 w1 w2 g cl aG z1 B2 z2 hF;obtain⟨n1,n2,aI⟩:=qu a1;have hb:1<=c0/\c0<=200/\1<=c1/\c1<=50/\1<=Y/\Y<=50/\1<=W/\W<=16:=by
   simp[uA,vm]at aF;omega
  obtain⟨q,rfl⟩:∃q:Nat,c1=(q:Int):=⟨c1.toNat,ag⟩;obtain⟨wk,rfl⟩:∃wk:Nat,Y=(wk:Int):=⟨Y.toNat,ag⟩;obtain⟨t,rfl⟩:∃t:Nat,W=(t:Int):=⟨W.toNat,ag⟩;obtain⟨hz,gs,hG,aB⟩:=hF;refine Hl g (M.bt s 0) q wk t cl (IQ s _ _ _ _ (w.heap.size+2)) w2 ag ag ?_;rintro w7 eb sb pb ac ⟨y1,y2,y3,y4,B7,hA,hS,hE⟩;have a7:=λk u=>B7.block k u;have pre:zz w7 s eb sb pb ac g cl q wk t gs:=⟨a1,ag,ag,hG.block (a7 g hG.lt),λk u=>by
   grind[Full.block,Full.lt],hA,Gf hS,hE⟩
  have a0:=pre.rep;have J:∀k,eH (sk w7 s eb sb pb ac g cl q wk t gs) oj F0 k->(w2.heap.size<=k\/(sk w7 s eb sb pb ac g cl q wk t gs).fx k)/\w.heap.size+2<=k:=λk u=>by
   rcases JB u with G|G|G|G
   .have G:k=eb:=G;omega
   .have G:k=sb:=G;omega
   .have G:k=pb:=G;exact⟨af ag,ag⟩
   refine⟨ah G,?_⟩;rcases G with h2|⟨f,hf,h2⟩|h2
   .omega
   .have:=(aB f hf).1;omega
   omega
  have H:=LF (sk w7 s eb sb pb ac g cl q wk t gs);have aA:(0:Nat)<(sk w7 s eb sb pb ac g cl q wk t gs).nf:=n1;refine(FD (f:=0) (0,0) (0,0) a0 pre.pw H.lw H.nd H.lt H.ol aA (by show 0+1<=_;omega)).mono ?_;rintro e w' ⟨rfl,g',Z,_⟩;refine⟨⟨_,rfl⟩,Z.below a0 (λk u=>(J k u).1) B7.size,sk w7 s eb sb pb ac g cl q wk t gs,oj.born 0 (0,0) (0,0),g',rfl,⟨pre.pw,pre.pi,by show q<=50;omega,by show wk<=50;omega⟩,Z.r,H.born (by show 0+1<=_;omega) aA (dW.num 0) (dW.num 0),rfl,⟨aG.symm,rfl,rfl,rfl,rfl,λ_=>rfl,λ_=>rfl,λ_ _=>rfl⟩,λk u=>⟨?_,Z.r.lt u⟩⟩;rcases Z.m k u with G|G
  .exact(J k G).2
  have:=B7.size;omega
 rintro e w' ⟨hB,⟨x,y,h,i,_⟩|⟨mb,eb,w3,rfl,⟨p,st,g,rfl,hP,hR,hO,rfl,a8,hM⟩,aH,rfl,aD,a9⟩⟩
 .exact⟨hB,af ⟨x,y,h,i⟩⟩
 have aC:dZ p (oj.born 0 (0,0) (0,0)) g w':=⟨λx y z=>(ob p (oj.born 0 (0,0) (0,0)) g x y z).fr w3 w' (hR.o x y z) (λk u=>a9 k (hR.lt ⟨x,y,z,u⟩) (by have:=(hM k ⟨x,y,z,u⟩).1;omega)),hR.i⟩;refine⟨hB,ah ⟨w3.heap.size,p,g,rfl,hP,⟨aC,hO,(tQ oj 0 (0,0) (0,0)).2.1,aD,λu=>by have:=(hM _ u).2;omega⟩,a8,?_⟩⟩;rintro k (u|rfl)
 .exact⟨by have:=(hM k u).1;omega,aC.lt u⟩
 obtain⟨x,hx⟩:=aD;exact⟨ag,ch hx⟩
theorem zo(mb eb:Nat)(w:aa)(y:w.cell? (ay mb 0)=some (.int .i32 0))(o:w.frozen? (ay mb 0)=false)(H:w.cell? (ay mb 2)=some (P0 eb))(R:Int->aa->Prop)(i:Hid (Calls prog 44 #[P0 eb] (w.setCell (ay mb 0) (.int .i32 1)) λe w'=>∃x:Int,e=.returned (aj x)/\w'.cell? (ay mb 0)=some (.int .i32 1)/\w'.frozen? (ay mb 0)=false/\R x w')): Calls prog 28 #[P0 mb] w λe w'=>∃x w1,e=.returned (aj x)/\R x w1/\w'=w1.setCell (ay mb 0) (.int .i32 0):=by
 go_enter_defers func28,ntmps28
 go_wp2_with fail
 refine du (rf mb w y o) ?_;rintro w1 rfl;go_wp2_with fail
 refine i.mono ?_;rintro e w2 ⟨x,rfl,c0,c1,hR⟩;have u:Hid (R x w2):=hR;go_wp2_with fail
 refine leaves_cons (f:=40) (args:=#[P0 mb]) eB (by simp[go_sem]) ?_;refine(jV (ay mb 0) .returning _ c0 c1).mono ?_;rintro e G w'' ⟨rfl,rfl,rfl⟩;exact⟨_,results_tmp rfl _ _ _,x,w2,rfl,u,rfl⟩
theorem J5(eb:Nat)(x:Int)(w:aa)(h:w.cell? (ay eb 28)=some (aj x)):dD 44 #[P0 eb] w (aj x) λw'=>w'=w:=by
 delta dD;go_in;go_wp2
 go_ret;exact⟨rfl,rfl⟩
def tS.clock(h:tS p s g mb w): dD 28 #[P0 mb] w (aj s.clk) λw'=>zC p s g mb w s g w':=by
 obtain⟨c0,u,J,W⟩:=h.cells;refine(zo mb p.eb w c0 u J (λx w'=>x=s.clk/\w'=w.setCell (ay mb 0) (.int .i32 1)) ?_).mono ?_
 .refine du (J5 p.eb s.clk _ (h.lock.E.cell 28 ag)) ?_;rintro w' rfl;obtain⟨G,y,_⟩:=h.sQ rfl;exact⟨s.clk,rfl,G,y,rfl,rfl⟩
 rintro e w' ⟨x,w1,rfl,⟨rfl,rfl⟩,rfl⟩;obtain⟨_,_,H⟩:=h.sQ rfl;exact⟨rfl,⟨h.lock.off h.nm 0 _,h.ok,h.ev,H,h.nm⟩,bp (bp (S:=λk=>eH p s g k\/k=mb) (dw _ _) (af (ah rfl)) _) (af (ah rfl)) _,λk o=>af o⟩
def I8{x:Int}(h:MB s.sp s.lv.length (s.q 2 0).length (s.q 3 0).length (λk=>(s.q 4 k).length) x):x=s.AL:=by
 obtain⟨Z,h2,h3,h4,h5⟩:=h;have W:((s.q 3 0).length≠0\/∃k,k<4/\(s.q 4 k).length≠0)↔zR s:=by
  have Y:∀l:List Nat,l.length≠0↔l≠[]:=λl=>not_congr db;unfold zR;rw[Y];exact or_congr Iff.rfl (exists_congr (λk=>and_congr Iff.rfl (Y _)))
 unfold Pl.AL;by_cases J:s.sp=true
 .rw[bf J];exact Z J
 have i:s.sp=false:=gG J;rw[au J];by_cases H:s.lv=[]
 .rw[bf H];exact h2 i (jx H)
 rw[au H];have o:s.lv.length≠0:=λe=>H (db.1 e);by_cases G:s.q 2 0=[]
 .have u:(s.q 2 0).length=0:=jx G;rw[au (λe=>e G)];by_cases y:zR s
  .rw[bf y];exact h4 i o u (W.2 y)
  rw[au y];exact h5 i o u (λe=>y (W.1 e))
 rw[bf G];exact h3 i o (λe=>G (db.1 e))
def zO(h:dZ p s g w): dD 42 #[P0 p.eb] w (aj s.AL) λw'=>w.grownBy w' none:=by
 refine(Gg p.eb s.sp (λk=>(s.q 4 k).length) s.lv.length (g.ro 6 0).2 (eS s 2 0) (g.ro 2 0).2 (eS s 3 0) (g.ro 3 0).2 (g.ro 6 0).1 (g.ro 2 0).1 (g.ro 3 0).1 w (h.E.cell 42 ag) (h.E.cell 29 ag) (h.E.cell 32 ag) (h.E.cell 33 ag) ⟨h.E.lt,λj y=>?_⟩).mono ?_
 .have i:=oU 3 j ag;rcases i with rfl|rfl|rfl|rfl
  .exact⟨⟨_,_,_,h.E.cell 34 ag⟩,_,_,h.E.cell 35 ag⟩
  .exact⟨⟨_,_,_,h.E.cell 36 ag⟩,_,_,h.E.cell 37 ag⟩
  .exact⟨⟨_,_,_,h.E.cell 38 ag⟩,_,_,h.E.cell 39 ag⟩
  exact⟨⟨_,_,_,h.E.cell 40 ag⟩,_,_,h.E.cell 41 ag⟩
 rintro e w' ⟨⟨x,rfl,o⟩,u⟩;rw[I8 o];exact⟨rfl,u⟩
theorem tS.zO{p:dL}{s:Pl}{g:eJ}{mb:Nat}{w:aa}(h:tS p s g mb w): dD 25 #[P0 mb] w (aj s.AL) λw'=>zC p s g mb w s g w':=by
 obtain⟨c0,H,Z,y⟩:=h.cells;have i:(w.setCell (ay mb 0) (.int .i32 1)).heap.size=w.heap.size:=by simp[World.setCell]
 refine(ye mb p.eb w c0 H Z (λx w'=>x=s.AL/\(w.setCell (ay mb 0) (.int .i32 1)).grownBy w' none) ?_).mono ?_
 .refine du (F.zO h.lock) λw' k2=>?_;have u:=k2.block mb (eV i y) im;obtain⟨W,J,_⟩:=h.sQ u;exact⟨_,rfl,W,J,rfl,k2⟩
 rintro e w' ⟨x,w1,rfl,⟨k1,k2⟩,rfl⟩;have u:=k2.block mb (eV i y) im;obtain⟨_,_,Y⟩:=h.sQ u;rw[k1];exact⟨rfl,⟨(h.lock.kept k2).off h.nm 0 _,h.ok,h.ev,Y,h.nm⟩,bp ((bp (S:=λk=>eH p s g k\/k=mb) (dw _ _) (af (ah rfl)) _).iW k2) (af (ah rfl)) _,λk G=>af G⟩
theorem LO(s:Pl)(t i:Nat)(f:jc):((s.dJ t i f).T t).fr=(s.T t).fr.set i f:=by grind[Pl.dJ,di]
structure Kn(s:Pl) (j:Nat) (f:jc) (ev:List tU):Prop where
 fr:(s.T 1).fr=[f]
 ff:f.f=0
 nx:f.nx=j
 ev:s.ev=ev
 q2:s.q 2 0=[]
 q3:s.q 3 0=[]
 lv:s.lv=[1]
 sp:s.sp=false
 nt:s.nt=1
 wh:(s.T 1).wh=none
 run:(s.T 1).run=true
theorem Kn.top(h:Kn s j f ev):de s 1=0/\bw s 1=f:=by
 have e:de s 1=0:=by unfold de;rw[h.fr];rfl
 refine⟨e,?_⟩;show dq s 1 (de s 1)=f;rw[e];unfold dq;rw[h.fr];rfl
theorem Kn.set{i:Nat}{e:jc}(h:Kn s j f ev)(o:e.f=0)(hn:e.nx=i):Kn (s.dJ 1 (de s 1) e) i e ev:=by
 obtain⟨G,H⟩:=h.top;obtain⟨y,_,u,_⟩:=gI s 1 (de s 1) 1 e;exact⟨by rw[LO,h.fr,G];rfl,o,hn,h.ev,h.q2,h.q3,h.lv,h.sp,h.nt,y.trans h.wh,u.trans h.run⟩
theorem Kn.gF{s:Pl}{j:Nat}{f:jc}{ev:List tU}(h:Kn s j f ev):Kn (s.gF 1) (j+1) { f with nx:=f.nx+1 } ev:=by
 grind[de,nx,Pl.gF,F.Kn.top,F.Kn.set,F.Kn.ff]
theorem Hm(i:0<k)(h:(bw s 1).nx≠p.len (bw s 1).f):s.ends p 1 k=s:=by
 cases k with
 | zero=>omega
 | succ k=>unfold Pl.ends;grind
theorem Kn.step{k:vF}(h:Kn s j f ev)(y:p.len 0=3)(G:j<3)(hi:p.ins 0 j=k)(e:jz p 1 s s'):∃why s3,kM p (s.gF 1) 1 k why s3/\s'=if why=0 then s3 else s3.leave 1 (0,-why) 3 why:=by
 obtain⟨H,o⟩:=h.top;unfold jz at e;rw[Hm ag (by rw[o,h.nx,h.ff,y];omega),bf h.run]at e;obtain⟨why,s3,i,u⟩:=e;grind[F.Kn.nx,F.Kn.ff]
def JJ(h:Kn s 0 f ev)(J:p.len 0=3)(hi:p.ins 0 0=(0,0,0,5))(H:jz p 1 s s'):∃o,Kn s' 1 o ev/\o.R 0=(0,5):=by
 obtain⟨why,s3,G,u⟩:=h.step J ag hi H;obtain⟨W,y⟩:why=0/\s3=qv (s.gF 1) 1 0 (B.wide 0 5):=G;subst W;rw[bf rfl,y]at u;subst u;have e:=h.gF;obtain⟨Y,i⟩:=e.top;refine⟨(bw (s.gF 1) 1).set 0 (0,B.wide 0 5),e.set ?_ ?_,?_⟩
 .rw[i];exact h.ff
 .rw[i];exact e.nx
 show B.set (bw (s.gF 1) 1).R 0 (0,B.wide 0 5) 0=_;rw[B.jN];rfl
def GY(h:Kn s 1 f ev)(u:f.R 0=(0,5))(Y:p.len 0=3)(hi:p.ins 0 1=(20,0,0,0))(J:jz p 1 s s'):∃y,Kn s' 2 y (ev++[(1,1,5)])/\y.R 0=(0,5):=by
 obtain⟨why,s3,H,G⟩:=h.step Y ag hi J;have e:=h.gF;obtain⟨Z,W⟩:=e.top;have hR:(bw (s.gF 1) 1).R 0=(0,5):=eV W u
 obtain⟨o,i⟩:why=(jU (s.gF 1) 1 0).1/\s3=(jU (s.gF 1) 1 0).2:=H;unfold jU at o i;rw[hR]at o i;simp only[if_true]at o i;subst o;rw[bf rfl,i]at G;subst G;exact⟨_,⟨e.fr,e.ff,e.nx,by show(s.gF 1).ev++_=_;rw[e.ev],e.q2,e.q3,e.lv,e.sp,e.nt,e.wh,e.run⟩,u⟩
theorem JH(hR:Rn p s 1)(h:Kn s 2 f ev)(W:f.R 0=(0,5))(G:p.len 0=3)(hi:p.ins 0 2=(14,0,0,0))(Y:jz p 1 s s'):(s'.T 1).run=false/\s'.ev=ev++[(2,1,5)]:=by
 obtain⟨why,s3,J,u⟩:=h.step G ag hi Y;have o:=h.gF;obtain⟨y,Z⟩:=o.top;have i:(bw (s.gF 1) 1).R 0=(0,5):=eV Z W
 have e:=(oy hR (by rw[h.top.2,h.nx,h.ff,G];omega)).1;obtain⟨e1,H⟩:why=0/\s3=(s.gF 1).back 1 ((bw (s.gF 1) 1).R 0):=J;subst e1;rw[bf rfl,H,i]at u;subst u;refine⟨(od e.ok.lw e.ht (0,5)).1 y,?_⟩;grind[nz,F.Kn.ev]
theorem Ai{p:dL}{t:Nat}{s s':Pl}(e:(s.T t).run=false):∀n,iu p t n s s'->s'=s
 | 0,h=>h
 | n+1,h=>by
  unfold iu at h;grind
structure Kb(s:Pl) (j:Nat) (f:jc):Prop where
 fr:(s.T 1).fr=[f]
 ff:f.f=0
 nx:f.nx=j
 ev:s.ev=[]
 q2:s.q 2 0=[1]
 q3:s.q 3 0=[]
 lv:s.lv=[1]
 sp:s.sp=false
 nt:s.nt=1
 wh:(s.T 1).wh=some (2,0)
theorem Kb.start{s:Pl}{j:Nat}{f:jc}(h:Kb s j f):Kn (s.start 1) j f []:=by
 have u:s.dz 1=(s.fF 2 0 ((s.q 2 0).erase 1)).dx 1 (s.T 1).off:=by unfold Pl.dz;rw[h.wh]
 have i:(s.start 1).T 1={ (s.dz 1).T 1 with run:=true }:=di _ _ _;have o:(s.dz 1).T 1=(s.T 1).off:=by rw[u];exact di _ _ _
 have y:∀x,(s.start 1).q x 0=if x=2 then[] else s.q x 0:=λx=>by
  show(s.dz 1).q x 0=_;rw[u];show(if x=2/\0=0 then(s.q 2 0).erase 1 else s.q x 0)=_;by_cases e:x=2
  .rw[bf ⟨e,rfl⟩,bf e,h.q2];rfl
  grind
 refine⟨by rw[i];show((s.dz 1).T 1).fr=_;rw[o];exact h.fr,h.ff,h.nx,(g8 s 1).2.2.2.1.trans h.ev,eR,eV y h.q3,?_,?_,(gg s 1).trans h.nt,by rw[i];show((s.dz 1).T 1).wh=_;rw[o];rfl,by rw[i]⟩
 .show(s.dz 1).lv=_;grind[g8,F.Kb.lv]
 show(s.dz 1).sp=_;rw[u];exact h.sp
theorem Bi(h:Kb s j f)(o:p.qn=2)(ht:ku p s 0 [] s'):∃e,iu p 1 2 (s.start 1) e/\s'=(if(e.T 1).run=true then e.dY 2 0 1 else e).jr p:=by
 have H:s.gr (B.iJ s.clk 0)=s:=by
  have:B.iJ s.clk 0=s.clk:=by unfold B.iJ;simp
  rw[this];rfl
 unfold ku at ht;have y:(s.gr (B.iJ s.clk 0)).fh []=s:=H;rw[y,bf ⟨by rw[h.lv];simp,h.sp⟩]at ht;obtain⟨s1,i,rfl⟩:=ht;have hw:s.iD (s.q 3 0)=s:=jx h.q3
 grind[iS,F.Kb.q2]
theorem JG{s1 s2:Pl}(G:Ok p s1.ns)(h:Kb s 0 f)(hl:p.len 0=3)(a5:p.ins 0 0=(0,0,0,5))(a6:p.ins 0 1=(20,0,0,0))(a4:p.ins 0 2=(14,0,0,0))(H:p.qn=2)(ht:ku p s 0 [] s1)(y:ku p s1.ns 0 [] s2):s1.ev=[(1,1,5)]/\s2.ev=[(2,1,5)]:=by
 obtain⟨a,o,rfl⟩:=Bi h H ht;have K0:=h.start;unfold iu at o;rw[bf K0.run]at o;obtain⟨a1,g1,o⟩:=o;obtain⟨f1,K1,R1⟩:=JJ K0 hl a5 g1;unfold iu at o;rw[bf K1.run]at o;obtain⟨a2,g2,o⟩:=o;obtain⟨f2,i,R2⟩:=GY K1 R1 hl a6 g2;have e:a=a2:=o;subst e;rw[bf i.run]at G y ⊢;have ho:a.dz 1=a:=by unfold Pl.dz;rw[i.wh]
 have u:a.dY 2 0 1=(a.fF 2 0 (a.q 2 0++[1])).dx 1 ((a.T 1).to 2 0):=by unfold Pl.dY;rw[ho]
 have Y:(a.dY 2 0 1).T 1=(a.T 1).to 2 0:=by rw[u];exact di _ _ _
 have hq:∀x,(a.dY 2 0 1).q x 0=if x=2 then[1] else a.q x 0:=λx=>by
  rw[u];show(if x=2/\0=0 then a.q 2 0++[1] else a.q x 0)=_;by_cases e:x=2
  .rw[bf ⟨e,rfl⟩,bf e,i.q2];rfl
  grind
 have a3:((a.dY 2 0 1).jr p).ev=[(1,1,5)]:=by
  show(a.dY 2 0 1).ev=_;rw[u];exact i.ev
 refine⟨a3,?_⟩;have B2:Kb ((a.dY 2 0 1).jr p).ns 2 f2:=by
  refine⟨?_,i.ff,i.nx,rfl,?_,?_,?_,?_,?_,?_⟩
  .show((a.dY 2 0 1).T 1).fr=_;rw[Y];exact i.fr
  .show(a.dY 2 0 1).q 2 0=_;grind
  .show(a.dY 2 0 1).q 3 0=_;rw[hq];exact i.q3
  .show(a.dY 2 0 1).lv=_;rw[u];exact i.lv
  .show(a.dY 2 0 1).sp=_;rw[u];exact i.sp
  .show(a.dY 2 0 1).nt=_;rw[u];exact i.nt
  show((a.dY 2 0 1).T 1).wh=_;rw[Y];rfl
 generalize ((a.dY 2 0 1).jr p).ns=b at *;obtain⟨c,W,rfl⟩:=Bi B2 H y;have J:=B2.start
 have hS:Ok p (b.start 1):=G.start (by rw[B2.lv];simp);have Z:Rn p (b.start 1) 1:=⟨hS,(hS.rn 1 ⟨bq _,kr J.nt⟩ J.run).2,J.run⟩;unfold iu at W;rw[bf J.run]at W;obtain⟨c1,g3,W⟩:=W;obtain⟨r3,e3⟩:=JH Z J R2 hl a4 g3;have e4:=Ai r3 1 W;subst e4;rw[au eR];exact e3
