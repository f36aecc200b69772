import Derived.Test.YtnjiinbhbjpfkaaGreatDoorTm
set_option maxRecDepth 100000
set_option maxHeartbeats 0
set_option linter.all false
namespace Go.Proofs.YtnjiinbhbjpfkaaGreatDoor
open Go.RowKit Go.Proofs.Tryz
namespace D
open F
variable {p:dL}{d:Dp}{K:Nat}{s:Pl}{m m':Dm}{g g':Dg}{w w':aa}{ρ:Nat → Nat}
theorem Mt{t tb fb n nr a b c:Nat}(hP:PD p d)(hG:∀f,f<p.nf->2<=p.rg f/\p.rg f<=8)(h:dZ d m g w)(hS:eF p K s m ρ)(hR:Rn p s t)(hQ:oV p d s m g w ρ t tb fb n nr)(ha:a<nr)(hb:b<nr)(hc:c<nr)(hK:K<900000000)(hn1:s.nt+1<=500000000): Calls prog 227 #[P0 g.mb,aj (t:Int),dA (g.rb t n) nr nr,jn 13 a b c] w λe w'=>∃(why:Int) (s':Pl),e=.returned (aj why)/\kM p s t (13,a,b,c) why s'/\∃m' g',Tr d m g w m' g' w'/\eF p K s' m' ρ:=by
 obtain⟨hn,hq⟩:=hS.small hR.ok;obtain⟨Z,a3,_,_⟩:=hQ.rc hb;obtain⟨bE,bC,_,_⟩:=hQ.rc hc;have aD:=hR.nM (eV hQ.r2 hb);have b3:=hR.nM (eV hQ.r2 hc);have a1:∀why,(fz s ((bw s t).R b)).2.2=false->why=4->kM p s t (13,a,b,c) why s:=λwhy hf e=>by
  subst e;exact⟨by show 4=ry _ _;rw[hf];rfl,by unfold mS;rw[au (λe=>by rw[hf]at e;cases e.1)]⟩
 by_cases h0:((bw s t).R b).1=0
 .rw[ox h0]at Z a3;rw[h0]at Z;refine du (ym hb Z a3) λw' hg=>?_;exact⟨4,s,rfl,a1 4 (by unfold fz;rw[bf (af h0)]) rfl,m,g,(Tr.refl h).kept hg,hS⟩
 obtain⟨e1,e2,e3,e4,e5⟩:=hS.IH hR.ok aD h0;rw[e1]at Z a3;obtain⟨cb,k1,k2,k3,k4,k5⟩:=h.cc e2 e3;obtain⟨z,hz⟩:∃z,ρ ((bw s t).R b).1=z+1:=⟨ρ ((bw s t).R b).1-1,ag⟩;rw[hz]at Z e3 k4 k5;rw[dC]at k4 k5;have a8:Ky w g.mb (g.rb t n) nr b c z cb m.nc (g.ro 3 0).2 (g.sb (z+1)) (m.M (z+1)).length 0 ((m.ck (z+1):Int)-1) (0,0) (0,0):=⟨hb,hc,ag,gp hS.B.1,Z,a3,k3,k4,k5,hQ.F.lt,h.M.lt,k2⟩;rw[hz]at e4 e5;by_cases hk:s.ck ((bw s t).R b).1=0
 .refine du (yl a8 (by rw[e5,hk];decide)) λw' hg=>?_;exact⟨4,s,rfl,a1 4 (by unfold fz;rw[bf (ah hk)]) rfl,m,g,(Tr.refl h).kept hg,hS⟩
 have aF:fz s ((bw s t).R b)=(s.ck ((bw s t).R b).1-1,(s.M ((bw s t).R b).1).getD 0 (0,0),true):=by unfold fz;rw[au (λe=>e.elim h0 hk)]
 obtain⟨aM,aK⟩:=pP hR.ok aD (by rw[aF]);rw[aF]at aM aK;have aI:=(hS.C _ (B.pR.vO aD h0)).f hk;have cK:1<=(m.M (z+1)).length:=by
  rw[e4,ef];have:(s.M ((bw s t).R b).1).length≠0:=λe=>aI (db.1 e);omega
 have b8:((m.ck (z+1):Int)-1)=((s.ck ((bw s t).R b).1-1:Nat):Int):=kr e5;have aT:=h.S (c:=z+1) ag e3;have aV:mW (m.M (z+1)) 0=tr ρ ((s.M ((bw s t).R b).1).getD 0 (0,0)):=by
  unfold mW;rw[e4]
  cases hM:s.M ((bw s t).R b).1 with
  | nil=>exact dp hM aI
  | cons y l=>rfl
 obtain⟨y0,y1,_,_⟩:=Jn aT (a:=0) ag;rw[aV,Nat.zero_mul]at y0 y1;rw[b8]at a8;generalize cR:s.ck ((bw s t).R b).1-1=ff at *;generalize cM:(s.M ((bw s t).R b).1).getD 0 (0,0)=cy at *;generalize (m.M (z+1)).length=ml at *;have b1:=ND (op:=13) (a:=a) a8;obtain⟨_,_,cJ,cU,_,_,_,_,_,lr,lb,lc⟩:=a8;have ls:=aT.lt;have cY:(b:Int)<(nr:Int):=ag
 have cP:g.rb t n<w.heap.size+1:=ag;have q1:IntKind.i64.wrap ((z:Int)+1-1)=(z:Int):=fj ag;have q2:IntKind.i64.wrap (z:Int)=(z:Int):=iU
 have q3:(z:Int)<(m.nc:Int):=ag;have q4:(0:Int)<=(z:Int):=ag;have q5:(((z:Int)+1) == 0)=false:=kr dX;change Hid _ at b1 h hS hR hQ b3 hP hG;have HY:=bj (bh y0 y1);have HC:=bj (bh bE bC);have a0:=bj (bh aF (bh aM aK));clear y0 y1 bE bC aF aM aK aD a1 e1 e2 e4 e5 k1 k3 k4 k5 Z a3 aV aT aI b8 hz;go_in;go_wp2_with fail
 generalize (w.alloc (.cells #[aj ((13:Nat):Int),aj (a:Int),aj (b:Int),aj (c:Int)] 90)).alloc (.cells #[aj ((z:Int)+1),aj 0] 115)=w2 at *;obtain⟨aA,i0,i1,i3,x0,aC,d0,d1,a9⟩:=b1.out;clear aA;go_quiet (fail)
 go_wp2_with fail
 clear i0 i1 i3 x0 aC d0 d1;obtain⟨aA,i0,i1,i3,x0,aC,d0,d1,a9⟩:=b1.out.drewN nq;have KG:=bj aA;generalize w2.drewN nq=w3 at *;have c7:cb<w3.heap.size:=an w3 _ d0;have c9:g.mb<w3.heap.size:=an w3 _ aC;clear aA b1;go_cut [10] (λq wx=>∃X:Nat,q=.pointer (some (ay X 0))/\Hid (MX w3 wx X (g.sb (z+1)) ml (ff:Int)))
 case first=>
  go_region
  all_goals
   go_wp2
   go_meet
   case rel=>exact⟨_,rfl,NC _ _ _ _⟩
 case rest=>
  obtain⟨X,rfl,bD⟩:=hcut;obtain⟨g3,v0,v1,hX⟩:=bD.out;have o0:dS wc w.heap.size 0=some (aj ((13:Nat):Int)):=(bd g3 (a:=ay w.heap.size 0) (by show w.heap.size<_;omega)).1.trans i0;have o1:=(bd g3 (a:=ay w.heap.size 1) (by show w.heap.size<_;omega)).1.trans i1;have o3:=(bd g3 (a:=ay w.heap.size 3) (by show w.heap.size<_;omega)).1.trans i3;have H:=bj (ar KG.out g3);have lw:w.heap.size<wc.heap.size:=gp g3.size
  have lX:X<wc.heap.size:=an wc _ v0;clear bD g3 i0 i1 i3 x0 aC d0 d1 hX c7 c9 KG;have bP:=bj (h.out.kept H.out);have a5:=bj (hQ.out.kept h.out H.out);obtain⟨k,rfl⟩:∃k,t=k+1:=⟨t-1,gp hR.out.ht.1⟩;have j6:=a5.out.T.c6;have jt:=a5.out.T.t0;rw[dC]at jt;have cV:(k:Int)<(m.nt:Int):=gp a5.out.dt.2
  have q6:=fj (n:=k) ag;have q7:(0:Int)<=(k:Int):=ag
  have q8:IntKind.i64.wrap (k:Int)=(k:Int):=iU;by_cases aR:n+1=20
  .go_wp2
   go_ret;refine⟨5,s,rfl,?_,m,g,(Tr.refl h.out).kept H.out,hS.out⟩;have hl:(s.T (k+1)).fr.length=20:=by rw[<-(hS.out.T _ hR.out.lv).l,hQ.out.T.l];exact aR
   exact⟨by show 5=ry _ _;rw[a0.out.1,hl];rfl,by unfold mS;rw[au (λe=>e.2 hl)]⟩
  have q9:¬((20:Int)<=(n:Int)+1):=gp hQ.out.n20;have aH:=(bd H.out (a:=ay (g.rb (k+1) n) (c*2)) lr).1.trans HC.out.1;have b9:=(bd H.out (a:=ay (g.rb (k+1) n) (c*2+1)) lr).1.trans HC.out.2;have aQ:=(bd H.out (a:=ay (g.sb (z+1)) 0) ls).1.trans HY.out.1;have b6:=(bd H.out (a:=ay (g.sb (z+1)) 1) ls).1.trans HY.out.2;have cQ:(c:Int)<(nr:Int):=ag
  have cN:0<ml:=ag;have bF:g.rb (k+1) n<wc.heap.size:=an wc _ aH;have b0:g.sb (z+1)<wc.heap.size:=an wc _ aQ;have cT:g.mb<wc.heap.size:=an wc _ j6;have aU:=bj (hP.out.rg ff a0.out.2.1);have aN:Hid (∀w1,wc.grownBy w1 none->Calls prog 74 #[P0 g.mb,aj (ff:Int),vA (tr ρ ((bw s (k+1)).R c)),vA (tr ρ cy),aj (a:Int)] w1 λe w'=>∃b',e=.returned (.agg #[aj (ff:Int),dA b' (d.rg ff) (d.rg ff),aj 0,aj (a:Int)])/\w1.heap.size<=b'/\Full w' b' 115 (d.rg ff*2) (d.rg ff*2) (eQ (ig (tr ρ ((bw s (k+1)).R c)) (tr ρ cy)))/\w1.grownBy w' none):=λw1 c2=>by
   have bA:=bP.out.kept c2;have c4:=bA.P.2.2;have cH:ff<d.nf:=eV hP.out.nf a0.out.2.1
   have:=hG.out ff a0.out.2.1;refine ze (bA.mc 0 ag rfl).1 (r0:=d.rg ff) ?_ cH (eV aU.out this.1) (eV aU.out this.2);rw[c4.cell (ff*2) ag];unfold Md;rw[mm,show ff*2 / 2=ff by omega]
  generalize b4:tr ρ ((bw s (k+1)).R c)=va at *;generalize aY:tr ρ cy=vc at *;have aZ:=bj (bh b4 aY);clear b4 aY;go_wp2_with fail
  obtain⟨W,bV⟩:∃x:aa,x=wc:=⟨_,rfl⟩;subst bV;go_cut [11] (λq wx=>∃Y b':Nat,q=.pointer (some (ay Y 0))/\Hid (N0 W wx Y b' ff a (d.rg ff) va vc))
  case first=>
   have a6:Hid (∀w',W.grownBy w' none->dS w' X 0=some (dA (g.sb (z+1)) ml ml)/\dS w' X 1=some (aj (ff:Int))/\dS w' w.heap.size 1=some (aj (a:Int))/\dS w' w.heap.size 3=some (aj (c:Int))/\dS w' (g.rb (k+1) n) (c*2)=some (aj (va.1:Int))/\dS w' (g.rb (k+1) n) (c*2+1)=some (aj va.2)/\dS w' (g.sb (z+1)) 0=some (aj (vc.1:Int))/\dS w' (g.sb (z+1)) 1=some (aj vc.2)):=λw' hg=>⟨(bd hg (a:=ay X 0) lX).1.trans v0,(bd hg (a:=ay X 1) lX).1.trans v1,(bd hg (a:=ay w.heap.size 1) lw).1.trans o1,(bd hg (a:=ay w.heap.size 3) lw).1.trans o3,(bd hg (a:=ay (g.rb (k+1) n) (c*2)) bF).1.trans aH,(bd hg (a:=ay (g.rb (k+1) n) (c*2+1)) bF).1.trans b9,(bd hg (a:=ay (g.sb (z+1)) 0) b0).1.trans aQ,(bd hg (a:=ay (g.sb (z+1)) 1) b0).1.trans b6⟩;go_region_held3 (λw'=>dS w' X 0=some (dA (g.sb (z+1)) ml ml)/\dS w' X 1=some (aj (ff:Int))/\dS w' w.heap.size 1=some (aj (a:Int))/\dS w' w.heap.size 3=some (aj (c:Int))/\dS w' (g.rb (k+1) n) (c*2)=some (aj (va.1:Int))/\dS w' (g.rb (k+1) n) (c*2+1)=some (aj va.2)/\dS w' (g.sb (z+1)) 0=some (aj (vc.1:Int))/\dS w' (g.sb (z+1)) 1=some (aj vc.2)) (first|exact a6.out _ (bo (aw _ _))|exact a6.out _ (ax (bo (aw _ _)) _)|exact a6.out _ a2.out|exact a6.out _ (ax a2.out _)|exact a6.out _ (bu (bu (bu (bu a2.out (ah (bq _)) _) (ah (bq _)) _) (ah (bq _)) _) (ah (bq _)) _)) (first|(go_at_call 74;refine(aN.out W.drew (bo (aw _ _))).mono ?_;rintro e w5 ⟨b',rfl,a7,a4,J⟩;have a2:Hid (W.grownBy w5 none):=⟨J.os,J.tape,J.output,J.size,J.block⟩;have aO:=bj a4;have aS:Hid (W.heap.size<=b'):=a7;clear J a4 a7)|(go_at_call 74;refine(aN.out (W.drew.alloc (.cells #[aj 0,.slice none 0 0,aj 0,aj 0] 163)) (ax (bo (aw _ _)) _)).mono ?_;rintro e w5 ⟨b',rfl,a7,a4,J⟩;have a2:=bj (ar (ax (bo (aw _ _)) _) J);have aO:=bj a4;have aS:=bj (by have h9:=a7;simp at h9;exact h9);have hy:w5.heap[W.heap.size]? = some (.cells #[aj 0,.slice none 0 0,aj 0,aj 0] 163 (0,0)):=da J (bl W.drew _) im;have ya:dS w5 W.heap.size 0=some (aj 0):=(by simp[World.cell?,hy]);have yb:dS w5 W.heap.size 1=some (.slice none 0 0):=(by simp[World.cell?,hy]);have yc:dS w5 W.heap.size 2=some (aj 0):=(by simp[World.cell?,hy]);have yd:dS w5 W.heap.size 3=some (aj 0):=(by simp[World.cell?,hy]);have za:w5.frozen? (ay W.heap.size 0)=false:=(by simp[World.frozen?,hy]);have zb:w5.frozen? (ay W.heap.size 1)=false:=(by simp[World.frozen?,hy]);have zc:w5.frozen? (ay W.heap.size 2)=false:=(by simp[World.frozen?,hy]);have zd:w5.frozen? (ay W.heap.size 3)=false:=(by simp[World.frozen?,hy]);have bN:=bj hy;clear hy J a4 a7))
   all_goals
    go_wp2
    go_meet
    case rel=>
     first
      | exact⟨_,_,rfl,NB a2.out aO.out aS.out⟩
      | exact⟨_,_,rfl,NA a2.out aO.out aS.out bN.out⟩
  case rest=>
   obtain⟨Y,b',rfl,aW⟩:=hcut;obtain⟨g4,hy,bU,cO,b5⟩:=aW.out;have aJ:=bj (ar H.out g4);have i:=bj (hQ.out.kept h.out aJ.out);have bG:=bj (h.out.kept aJ.out);have t6:=i.out.T.c6;have tt:=i.out.T.t0;rw[dC]at tt;have zt:wc.frozen? (ay tb (k*8))=false:=by
    obtain⟨bH,e1,_,tc⟩:=bG.out.tc i.out.dt;have:bH=tb:=by
     have:=i.out.T.b;rw[e1]at this;injection this with this _;injection this with this;injection this with this _
    subst this;have:=(tc.c 0 ag).2;rw[Nat.add_zero,dC]at this;exact this
   have ya:dS wc Y 0=some (aj (ff:Int)):=fy hy;have yb:dS wc Y 1=some (dA b' (d.rg ff) (d.rg ff)):=fy hy;have yc:dS wc Y 2=some (aj 0):=fy hy;have yd:dS wc Y 3=some (aj (a:Int)):=fy hy;have bJ:=bj b5;have c3:w.heap.size<=b':=ag
   have aE:=i.out.T.l;have aL:=i.out.T.a;have cA:Hid (wc.ownsRow 0 163 4 (dA fb (n+1) (g.ro 5 (k+1)).2) (n+1) (rowP ((n+1)*4) (fE d m g (k+1)))):=by
    have:=bG.out.Fw i.out.dt;unfold je at this;rw[aL,show sg m 5 (k+1)=n+1 from aE,aE]at this;exact this
   have b2:Hid (∀j,(Value.slice (some (ay fb 0)) (n+1) (g.ro 5 (k+1)).2).ownBlock=some j->j=fb):=λj G=>by simpa[Value.ownBlock] using G.symm
   have c8:fb<wc.heap.size:=i.out.T.lf;have bX:tb<wc.heap.size:=i.out.T.lt;have cF:g.mb<wc.heap.size:=an wc _ t6;have lY:Y<wc.heap.size:=an wc _ ya;have cD:g.mb≠fb:=i.out.T.n1;have bM:tb≠fb:=i.out.T.n2;have bS:Y≠fb:=λe=>by
    have h1:=hQ.out.T.lf;omega
   have b7:=bj aE;have bI:=bj aL;obtain⟨cG,bT,bR,bK,bZ⟩:=info_parts Tryz.He;have cC:Hid (∀w':aa,w'.heap[g.mb]? = wc.heap[g.mb]?->w'.heap[tb]? = wc.heap[tb]?->w'.heap[Y]? = wc.heap[Y]?->dS w' g.mb 6=some (dA tb m.nt (g.ro 1 0).2)/\dS w' tb (k*8)=some (dA fb (n+1) (g.ro 5 (k+1)).2)/\w'.frozen? (ay tb (k*8))=false/\dS w' Y 0=some (aj (ff:Int))/\dS w' Y 1=some (dA b' (d.rg ff) (d.rg ff))/\dS w' Y 2=some (aj 0)/\dS w' Y 3=some (aj (a:Int))):=λw' e1 e2 e3=>⟨(az (a:=ay g.mb 6) e1).trans t6,(az (a:=ay tb (k*8)) e2).trans tt,(dr (a:=ay tb (k*8)) e2).trans zt,(az (a:=ay Y 0) e3).trans ya,(az (a:=ay Y 1) e3).trans yb,(az (a:=ay Y 2) e3).trans yc,(az (a:=ay Y 3) e3).trans yd⟩;have bB:Hid (∀(o:Obj) (j:Nat),j<wc.heap.size->(wc.drew.alloc o).heap[j]? = wc.heap[j]?):=λo j G=>av wc.drew o j G
   clear aW g4 hy bU b5 aE aL jt j6 aH b9 aQ b6 v0 v1 o0 o1 o3 lX lw aN;go_wp2
   go_cut [] (λwx=>Hid (∃g1,Tr d m g w (m.push (k+1) ⟨ff,0,ig va vc,(13,a,b,c)⟩) g1 wx))
   case first=>
    go_region_law (refine fD _ rfl (.tmp 86) (.tmp 88) 165 rfl 163 cG _ 4 48 Tryz.underlying165 bT bR bK bZ rfl ek (some (ay fb 0)) (n+1) (g.ro 5 (k+1)).2 (rowP ((n+1)*4) (fE d m g (k+1))) mB (dQ cA.out (λj G=>bB.out _ _ (by rw[b2.out j G];exact c8))) (ay wc.heap.size 0) 1 1 [aj (ff:Int),dA b' (d.rg ff) (d.rg ff),aj 0,aj (a:Int)] mB rfl (by intro j u G;match j,G with|0,G=>(simp at G;subst G;simp[Addr.add,go_sem])|1,G=>(simp at G;subst G;simp[Addr.add,go_sem])|2,G=>(simp at G;subst G;simp[Addr.add,go_sem])|3,G=>(simp at G;subst G;simp[Addr.add,go_sem])) xI pY ag ek ?_;intro v' w6 ho aG aX;obtain⟨kb,cL,rfl⟩:=ee ho ag;have c5:=bj ho;have cB:=bj aG;have bL:=bj aX;have KO:Hid (∀j,j<wc.heap.size->j≠fb->w6.heap[j]? = wc.heap[j]?):=(λj G hn=>(aG.block j (by first|(simp;omega)|omega) (λh=>hn (b2.out j h.symm))).trans (bB.out _ _ G));obtain⟨s6,sT,sz,sa,sb,sc,sd⟩:=cC.out w6 (KO.out _ cF cD) (KO.out _ bX bM) (KO.out _ lY bS);clear ho aG aX)
    all_goals
     go_wp2
     go_meet
     case rel=>
      have ho:=c5.out;have hg:=cB.out;have hm:=bL.out;rw[<-b7.out]at ho ⊢;rw[<-b7.out,<-bI.out]at hg hm;obtain⟨g1,h1⟩:=Jt (t:=k+1) (tb:=tb) (f:=⟨ff,0,ig va vc,(13,a,b,c)⟩) h.out hQ.out.dt hQ.out.T.b aJ.out bJ.out c3 ho hg hm rfl ⟨rfl,rfl,rfl⟩;rw[dC]at h1;exact⟨g1,h1⟩
   case rest=>
    have aP:Hid (∃g1,Tr d m g w (m.push (k+1) ⟨ff,0,ig va vc,(13,a,b,c)⟩) g1 wc):=hcut;clear hcut;go_wp2
    go_ret;obtain⟨g1,h1⟩:=aP.out;have hl:(s.T (k+1)).fr.length=n+1:=by rw[<-(hS.out.T _ hR.out.lv).l,hQ.out.T.l]
    refine⟨0,mS s (k+1) (13,a,b,c),rfl,⟨?_,rfl⟩,_,g1,h1,?_⟩
    .show 0=ry _ _;rw[a0.out.1,hl];unfold ry;rw[au im,au aR]
    unfold mS;rw[a0.out.1,bf ⟨rfl,eV hl aR⟩];refine hS.out.push hR.out.lv ⟨rfl,rfl,λ_=>rfl,λj G=>?_⟩ (λj _=>qQ b3.out a0.out.2.2 j);show ig va vc j=tr ρ (ig ((bw s (k+1)).R c) cy j);rw[<-aZ.out.1,<-aZ.out.2];unfold ig;split
    .rfl
    split<;>rfl
