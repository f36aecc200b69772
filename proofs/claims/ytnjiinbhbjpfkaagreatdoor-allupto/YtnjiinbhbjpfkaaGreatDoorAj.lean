import Derived.Test.YtnjiinbhbjpfkaaGreatDoorAf
set_option maxRecDepth 100000
set_option maxHeartbeats 0
set_option linter.all false
namespace Go.Proofs.YtnjiinbhbjpfkaaGreatDoor
open Go.RowKit Go.Proofs.Tryz
namespace D
open F
variable {p:dH}{d:Dp}{K:Nat}{s:Pl}{m m':Dm}{g g':Dg}{w w':aa}{ρ:Nat->Nat}
theorem Nu{t tb fb n nr a b c:Nat}(hP:PD p d)(hG:∀f,f<p.nf->2<=p.rg f/\p.rg f<=8)(h:dZ d m g w)(hS:eF p K s m ρ)(hR:Rn p s t)(hQ:ph p d s m g w ρ t tb fb n nr)(ha:a<nr)(hb:b<nr)(hc:c<nr)(hK:K<900000000)(hn1:s.nt+1<=500000000):Calls prog 227 #[P0 g.mb,ah (t:Int),dD (g.rb t n) nr nr,jC 13 a b c] w λe w'=>∃(why:Int) (s':Pl),e=.returned (ah why)/\ku p s t (13,a,b,c) why s'/\∃m' g',Tr d m g w m' g' w'/\eF p K s' m' ρ:=by
 obtain⟨hn,hq⟩:=hS.small hR.ok;obtain⟨Z,a3,_,_⟩:=hQ.rc hb;obtain⟨bE,bC,_,_⟩:=hQ.rc hc;have aD:=hR.n9<|eZ hQ.r2 hb;have b3:=hR.n9<|eZ hQ.r2 hc;have a1:∀why,(fD s<|(bz s t).R b).2.2=false->why=4->ku p s t (13,a,b,c) why s:=λwhy hf e=>by
  subst e;exact⟨by show 4=sy _ _;rw[hf];rfl,by unfold mH;rw[av (λe=>by rw[hf]at e;cases e.1)]⟩
 by_cases h0:((bz s t).R b).1=0
 .rw[oN h0]at Z a3;rw[h0]at Z;refine dq (yT hb Z a3) λw' hg=>?_;exact⟨4,s,rfl,a1 4 (by unfold fD;rw[bf<|ag h0]) rfl,m,g,(Tr.refl h).kept hg,hS⟩
 obtain⟨e1,e2,e3,e4,e5⟩:=hS.JD hR.ok aD h0;rw[e1]at Z a3;obtain⟨cb,k1,k2,k3,k4,k5⟩:=h.cc e2 e3;obtain⟨z,hz⟩:∃z,ρ ((bz s t).R b).1=z+1:=⟨ρ ((bz s t).R b).1-1,af⟩;rw[hz]at Z e3 k4 k5;rw[dF]at k4 k5;have a8:L4 w g.mb (g.rb t n) nr b c z cb m.nc (g.ro 3 0).2 (g.sb<|z+1) (m.M<|z+1).length 0 ((m.ck (z+1):Int)-1) (0,0) (0,0):=⟨hb,hc,af,gD hS.B.1,Z,a3,k3,k4,k5,hQ.F.lt,h.M.lt,k2⟩;rw[hz]at e4 e5;by_cases hk:s.ck ((bz s t).R b).1=0
 .refine dq (yS a8 (by rw[e5,hk];decide)) λw' hg=>?_;exact⟨4,s,rfl,a1 4 (by unfold fD;rw[bf<|ak hk]) rfl,m,g,(Tr.refl h).kept hg,hS⟩
 have aF:fD s ((bz s t).R b)=(s.ck ((bz s t).R b).1-1,(s.M ((bz s t).R b).1).getD 0 (0,0),true):=by unfold fD;rw[av<|λe=>e.elim h0 hk]
 obtain⟨aM,aK⟩:=qw hR.ok aD (by rw[aF]);rw[aF]at aM aK;have aI:=(hS.C _<|B.px.vS aD h0).f hk;have cK:1<=(m.M<|z+1).length:=by
  rw[e4,eD];have:(s.M ((bz s t).R b).1).length≠0:=λe=>aI<|dh.1 e;omega
 have b8:((m.ck (z+1):Int)-1)=((s.ck ((bz s t).R b).1-1:Nat):Int):=lD e5
 have aT:=h.S (c:=z+1) af e3;have aV:nD (m.M<|z+1) 0=tr ρ ((s.M ((bz s t).R b).1).getD 0 (0,0)):=by
  unfold nD;rw[e4]
  cases hM:s.M ((bz s t).R b).1 with
  |nil=>exact dr hM aI
  |cons y l=>rfl
 obtain⟨y0,y1,_,_⟩:=Kh aT (a:=0) af;rw[aV,Nat.zero_mul]at y0 y1;rw[b8]at a8;generalize cR:s.ck ((bz s t).R b).1-1=ff at*;generalize cM:(s.M ((bz s t).R b).1).getD 0 (0,0)=cy at*;generalize (m.M<|z+1).length=ml at*;have b1:=OK (op:=13) (a:=a) a8;obtain⟨_,_,cJ,cU,_,_,_,_,_,lr,lb,lc⟩:=a8;have ls:=aT.lt;have cY:(b:Int)<(nr:Int):=af
 have cP:g.rb t n<w.heap.size+1:=af
 have q1:IntKind.i64.wrap ((z:Int)+1-1)=(z:Int):=fm af;have q2:IntKind.i64.wrap (z:Int)=(z:Int):=jA
 have q3:(z:Int)<(m.nc:Int):=af
 have q4:(0:Int)<=(z:Int):=af
 have q5:(((z:Int)+1) == 0)=false:=lD dY
 change Hid _ at b1 h hS hR hQ b3 hP hG;have HY:=bj<|bh y0 y1;have HC:=bj<|bh bE bC;have a0:=bj<|bh aF<|bh aM aK;clear y0 y1 bE bC aF aM aK aD a1 e1 e2 e4 e5 k1 k3 k4 k5 Z a3 aV aT aI b8 hz;go_in;go_wp2_with fail
 generalize (w.alloc<|.cells #[ah ((13:Nat):Int),ah (a:Int),ah (b:Int),ah (c:Int)] 90).alloc (.cells #[ah<|(z:Int)+1,ah 0] 115)=w2 at*;obtain⟨aA,i0,i1,i3,x0,aC,d0,d1,a9⟩:=b1.out;clear aA;go_quiet (fail)
 go_wp2_with fail
 clear i0 i1 i3 x0 aC d0 d1;obtain⟨aA,i0,i1,i3,x0,aC,d0,d1,a9⟩:=b1.out.drewN nq;have KG:=bj aA;generalize w2.drewN nq=w3 at*;have c7:cb<w3.heap.size:=an w3 _ d0;have c9:g.mb<w3.heap.size:=an w3 _ aC;clear aA b1;go_cut[10] (λq wx=>∃X:Nat,q=.pointer (some<|az X 0)/\Hid (NY w3 wx X (g.sb<|z+1) ml (ff:Int)))
 case first=>
  go_region
  all_goals
   go_wp2
   go_meet
   case rel=>exact⟨_,rfl,OJ _ _ _ _⟩
 case rest=>
  obtain⟨X,rfl,bD⟩:=hcut;obtain⟨g3,v0,v1,hX⟩:=bD.out;have o0:dW wc w.heap.size 0=some (ah ((13:Nat):Int)):=(ay g3 (a:=az w.heap.size 0) (by show w.heap.size<_;omega)).1.trans i0;have o1:=(ay g3 (a:=az w.heap.size 1) (by show w.heap.size<_;omega)).1.trans i1;have o3:=(ay g3 (a:=az w.heap.size 3) (by show w.heap.size<_;omega)).1.trans i3;have H:=bj<|ar KG.out g3;have lw:w.heap.size<wc.heap.size:=gD g3.size
  have lX:X<wc.heap.size:=an wc _ v0;clear bD g3 i0 i1 i3 x0 aC d0 d1 hX c7 c9 KG;have bP:=bj<|h.out.kept H.out;have a5:=bj<|hQ.out.kept h.out H.out;obtain⟨k,rfl⟩:∃k,t=k+1:=⟨t-1,gD hR.out.ht.1⟩;have j6:=a5.out.T.c6;have jt:=a5.out.T.t0;rw[dF]at jt;have cV:(k:Int)<(m.nt:Int):=gD a5.out.dt.2
  have q6:=fm (n:=k) af;have q7:(0:Int)<=(k:Int):=af
  have q8:IntKind.i64.wrap (k:Int)=(k:Int):=jA
  by_cases aR:n+1=20
  .go_wp2
   go_ret;refine⟨5,s,rfl,?_,m,g,(Tr.refl h.out).kept H.out,hS.out⟩;have hl:(s.T<|k+1).fr.length=20:=by rw[<-(hS.out.T _ hR.out.lv).l,hQ.out.T.l];exact aR
   exact⟨by show 5=sy _ _;rw[a0.out.1,hl];rfl,by unfold mH;rw[av<|λe=>e.2 hl]⟩
  have q9:¬((20:Int)<=(n:Int)+1):=gD hQ.out.n20
  have aH:=(ay H.out (a:=az (g.rb (k+1) n)<|c*2) lr).1.trans HC.out.1;have b9:=(ay H.out (a:=az (g.rb (k+1) n)<|c*2+1) lr).1.trans HC.out.2;have aQ:=(ay H.out (a:=az (g.sb<|z+1) 0) ls).1.trans HY.out.1;have b6:=(ay H.out (a:=az (g.sb<|z+1) 1) ls).1.trans HY.out.2;have cQ:(c:Int)<(nr:Int):=af
  have cN:0<ml:=af
  have bF:g.rb (k+1) n<wc.heap.size:=an wc _ aH;have b0:g.sb (z+1)<wc.heap.size:=an wc _ aQ;have cT:g.mb<wc.heap.size:=an wc _ j6;have aU:=bj<|hP.out.rg ff a0.out.2.1;have aN:Hid (∀w1,wc.grownBy w1 none->Calls prog 74 #[P0 g.mb,ah (ff:Int),vA<|tr ρ<|(bz s<|k+1).R c,vA<|tr ρ cy,ah (a:Int)] w1 λe w'=>∃b',e=.returned (.agg #[ah (ff:Int),dD b' (d.rg ff)<|d.rg ff,ah 0,ah (a:Int)])/\w1.heap.size<=b'/\Full w' b' 115 (d.rg ff*2) (d.rg ff*2) (eR<|iz (tr ρ<|(bz s<|k+1).R c)<|tr ρ cy)/\w1.grownBy w' none):=λw1 c2=>by
   have bA:=bP.out.kept c2;have c4:=bA.P.2.2;have cH:ff<d.nf:=eZ hP.out.nf a0.out.2.1
   have:=hG.out ff a0.out.2.1;refine zR (bA.mc 0 af rfl).1 (r0:=d.rg ff) ?_ cH (eZ aU.out this.1)<|eZ aU.out this.2;rw[c4.cell (ff*2) af];unfold Na;rw[mL,show ff*2/2=ff by omega]
  generalize b4:tr ρ ((bz s<|k+1).R c)=va at*;generalize aY:tr ρ cy=vc at*;have aZ:=bj<|bh b4 aY;clear b4 aY;go_wp2_with fail
  obtain⟨W,bV⟩:∃x:aa,x=wc:=⟨_,rfl⟩;subst bV;go_cut[11] (λq wx=>∃Y b':Nat,q=.pointer (some<|az Y 0)/\Hid (O8 W wx Y b' ff a (d.rg ff) va vc))
  case first=>
   have a6:Hid (∀w',W.grownBy w' none->dW w' X 0=some (dD (g.sb<|z+1) ml ml)/\dW w' X 1=some (ah (ff:Int))/\dW w' w.heap.size 1=some (ah (a:Int))/\dW w' w.heap.size 3=some (ah (c:Int))/\dW w' (g.rb (k+1) n) (c*2)=some (ah (va.1:Int))/\dW w' (g.rb (k+1) n) (c*2+1)=some (ah va.2)/\dW w' (g.sb<|z+1) 0=some (ah (vc.1:Int))/\dW w' (g.sb<|z+1) 1=some (ah vc.2)):=λw' hg=>⟨(ay hg (a:=az X 0) lX).1.trans v0,(ay hg (a:=az X 1) lX).1.trans v1,(ay hg (a:=az w.heap.size 1) lw).1.trans o1,(ay hg (a:=az w.heap.size 3) lw).1.trans o3,(ay hg (a:=az (g.rb (k+1) n)<|c*2) bF).1.trans aH,(ay hg (a:=az (g.rb (k+1) n)<|c*2+1) bF).1.trans b9,(ay hg (a:=az (g.sb<|z+1) 0) b0).1.trans aQ,(ay hg (a:=az (g.sb<|z+1) 1) b0).1.trans b6⟩;go_region_held3 (λw'=>dW w' X 0=some (dD (g.sb<|z+1) ml ml)/\dW w' X 1=some (ah (ff:Int))/\dW w' w.heap.size 1=some (ah (a:Int))/\dW w' w.heap.size 3=some (ah (c:Int))/\dW w' (g.rb (k+1) n) (c*2)=some (ah (va.1:Int))/\dW w' (g.rb (k+1) n) (c*2+1)=some (ah va.2)/\dW w' (g.sb<|z+1) 0=some (ah (vc.1:Int))/\dW w' (g.sb<|z+1) 1=some (ah vc.2)) (first|exact a6.out _ (bo<|aw _ _)|exact a6.out _ (ax (bo<|aw _ _) _)|exact a6.out _ a2.out|exact a6.out _ (ax a2.out _)|exact a6.out _<|bu (bu (bu (bu a2.out (ak<|bm _) _) (ak<|bm _) _) (ak<|bm _) _) (ak<|bm _) _) (first|(go_at_call 74;refine(aN.out W.drew<|bo<|aw _ _).mono ?_;rintro e w5 ⟨b',rfl,a7,a4,J⟩;have a2:Hid (W.grownBy w5 none):=⟨J.os,J.tape,J.output,J.size,J.block⟩;have aO:=bj a4;have aS:Hid (W.heap.size<=b'):=a7;clear J a4 a7)|(go_at_call 74;refine(aN.out (W.drew.alloc<|.cells #[ah 0,.slice none 0 0,ah 0,ah 0] 163)<|ax (bo<|aw _ _) _).mono ?_;rintro e w5 ⟨b',rfl,a7,a4,J⟩;have a2:=bj<|ar (ax (bo<|aw _ _) _) J;have aO:=bj a4;have aS:=bj (by have h9:=a7;simp at h9;exact h9);have hy:w5.heap[W.heap.size]?=some (.cells #[ah 0,.slice none 0 0,ah 0,ah 0] 163 (0,0)):=da J (bl W.drew _) je;have ya:dW w5 W.heap.size 0=some (ah 0):=(by simp[World.cell?,hy]);have yb:dW w5 W.heap.size 1=some (.slice none 0 0):=(by simp[World.cell?,hy]);have yc:dW w5 W.heap.size 2=some (ah 0):=(by simp[World.cell?,hy]);have yd:dW w5 W.heap.size 3=some (ah 0):=(by simp[World.cell?,hy]);have za:w5.frozen? (az W.heap.size 0)=false:=(by simp[World.frozen?,hy]);have zb:w5.frozen? (az W.heap.size 1)=false:=(by simp[World.frozen?,hy]);have zc:w5.frozen? (az W.heap.size 2)=false:=(by simp[World.frozen?,hy]);have zd:w5.frozen? (az W.heap.size 3)=false:=(by simp[World.frozen?,hy]);have bN:=bj hy;clear hy J a4 a7))
   all_goals
    go_wp2
    go_meet
    case rel=>
     first
      |exact⟨_,_,rfl,OI a2.out aO.out aS.out⟩
      |exact⟨_,_,rfl,OH a2.out aO.out aS.out bN.out⟩
  case rest=>
   obtain⟨Y,b',rfl,aW⟩:=hcut;obtain⟨g4,hy,bU,cO,b5⟩:=aW.out;have aJ:=bj<|ar H.out g4;have i:=bj<|hQ.out.kept h.out aJ.out;have bG:=bj<|h.out.kept aJ.out;have t6:=i.out.T.c6;have tt:=i.out.T.t0;rw[dF]at tt;have zt:wc.frozen? (az tb<|k*8)=false:=by
    obtain⟨bH,e1,_,tc⟩:=bG.out.tc i.out.dt;have:bH=tb:=by
     have:=i.out.T.b;rw[e1]at this;injection this with this _;injection this with this;injection this with this _
    subst this;have:=(tc.c 0 af).2;rw[Nat.add_zero,dF]at this;exact this
   have ya:dW wc Y 0=some (ah (ff:Int)):=fj hy
   have yb:dW wc Y 1=some (dD b' (d.rg ff)<|d.rg ff):=fj hy
   have yc:dW wc Y 2=some (ah 0):=fj hy
   have yd:dW wc Y 3=some (ah (a:Int)):=fj hy
   have bJ:=bj b5;have c3:w.heap.size<=b':=af
   have aE:=i.out.T.l;have aL:=i.out.T.a;have cA:Hid (wc.ownsRow 0 163 4 (dD fb (n+1) (g.ro 5<|k+1).2) (n+1)<|rowP ((n+1)*4)<|fE d m g<|k+1):=by
    have:=bG.out.Fw i.out.dt;unfold js at this;rw[aL,show sS m 5 (k+1)=n+1 from aE,aE]at this;exact this
   have b2:Hid (∀j,(Value.slice (some<|az fb 0) (n+1) (g.ro 5<|k+1).2).ownBlock=some j->j=fb):=λj G=>by simpa[Value.ownBlock] using G.symm
   have c8:fb<wc.heap.size:=i.out.T.lf;have bX:tb<wc.heap.size:=i.out.T.lt;have cF:g.mb<wc.heap.size:=an wc _ t6;have lY:Y<wc.heap.size:=an wc _ ya;have cD:g.mb≠fb:=i.out.T.n1;have bM:tb≠fb:=i.out.T.n2;have bS:Y≠fb:=λe=>by
    have h1:=hQ.out.T.lf;omega
   have b7:=bj aE;have bI:=bj aL;obtain⟨cG,bT,bR,bK,bZ⟩:=info_parts Tryz.IK;have cC:Hid (∀w':aa,w'.heap[g.mb]?=wc.heap[g.mb]?->w'.heap[tb]?=wc.heap[tb]?->w'.heap[Y]?=wc.heap[Y]?->dW w' g.mb 6=some (dD tb m.nt (g.ro 1 0).2)/\dW w' tb (k*8)=some (dD fb (n+1) (g.ro 5<|k+1).2)/\w'.frozen? (az tb<|k*8)=false/\dW w' Y 0=some (ah (ff:Int))/\dW w' Y 1=some (dD b' (d.rg ff)<|d.rg ff)/\dW w' Y 2=some (ah 0)/\dW w' Y 3=some (ah (a:Int))):=λw' e1 e2 e3=>⟨(bd (a:=az g.mb 6) e1).trans t6,(bd (a:=az tb<|k*8) e2).trans tt,(dv (a:=az tb<|k*8) e2).trans zt,(bd (a:=az Y 0) e3).trans ya,(bd (a:=az Y 1) e3).trans yb,(bd (a:=az Y 2) e3).trans yc,(bd (a:=az Y 3) e3).trans yd⟩;have bB:Hid (∀(o:Obj) (j:Nat),j<wc.heap.size->(wc.drew.alloc o).heap[j]?=wc.heap[j]?):=λo j G=>au wc.drew o j G
   clear aW g4 hy bU b5 aE aL jt j6 aH b9 aQ b6 v0 v1 o0 o1 o3 lX lw aN;go_wp2
   go_cut[] (λwx=>Hid<|∃g1,Tr d m g w (m.push (k+1) ⟨ff,0,iz va vc,(13,a,b,c)⟩) g1 wx)
   case first=>
    go_region_law (refine fH _ rfl (.tmp 86) (.tmp 88) 165 rfl 163 cG _ 4 48 Tryz.underlying165 bT bR bK bZ rfl eo (some<|az fb 0) (n+1) (g.ro 5<|k+1).2 (rowP ((n+1)*4)<|fE d m g<|k+1) mS (dS cA.out<|λj G=>bB.out _ _ (by rw[b2.out j G];exact c8)) (az wc.heap.size 0) 1 1 [ah (ff:Int),dD b' (d.rg ff)<|d.rg ff,ah 0,ah (a:Int)] mS rfl (by intro j u G;match j,G with|0,G=>(simp at G;subst G;simp[Addr.add,go_sem])|1,G=>(simp at G;subst G;simp[Addr.add,go_sem])|2,G=>(simp at G;subst G;simp[Addr.add,go_sem])|3,G=>(simp at G;subst G;simp[Addr.add,go_sem])) yv pY af eo ?_;intro v' w6 ho aG aX;obtain⟨kb,cL,rfl⟩:=ef ho af;have c5:=bj ho;have cB:=bj aG;have bL:=bj aX;have KO:Hid (∀j,j<wc.heap.size->j≠fb->w6.heap[j]?=wc.heap[j]?):=(λj G hn=>(aG.block j (by first|(simp;omega)|omega)<|λh=>hn<|b2.out j h.symm).trans<|bB.out _ _ G);obtain⟨s6,sT,sz,sa,sb,sc,sd⟩:=cC.out w6 (KO.out _ cF cD) (KO.out _ bX bM)<|KO.out _ lY bS;clear ho aG aX)
    all_goals
     go_wp2
     go_meet
     case rel=>
      have ho:=c5.out;have hg:=cB.out;have hm:=bL.out;rw[<-b7.out]at ho⊢;rw[<-b7.out,<-bI.out]at hg hm;obtain⟨g1,h1⟩:=Kq (t:=k+1) (tb:=tb) (f:=⟨ff,0,iz va vc,(13,a,b,c)⟩) h.out hQ.out.dt hQ.out.T.b aJ.out bJ.out c3 ho hg hm rfl ⟨rfl,rfl,rfl⟩;rw[dF]at h1;exact⟨g1,h1⟩
   case rest=>
    have aP:Hid (∃g1,Tr d m g w (m.push (k+1) ⟨ff,0,iz va vc,(13,a,b,c)⟩) g1 wc):=hcut;clear hcut;go_wp2
    go_ret;obtain⟨g1,h1⟩:=aP.out;have hl:(s.T<|k+1).fr.length=n+1:=by rw[<-(hS.out.T _ hR.out.lv).l,hQ.out.T.l]
    refine⟨0,mH s (k+1) (13,a,b,c),rfl,⟨?_,rfl⟩,_,g1,h1,?_⟩
    .show 0=sy _ _;rw[a0.out.1,hl];unfold sy;rw[av je,av aR]
    unfold mH;rw[a0.out.1,bf ⟨rfl,eZ hl aR⟩];refine hS.out.push hR.out.lv ⟨rfl,rfl,λ_=>rfl,λj G=>?_⟩<|λj _=>rE b3.out a0.out.2.2 j;show iz va vc j=tr ρ (iz ((bz s<|k+1).R c) cy j);rw[<-aZ.out.1,<-aZ.out.2];unfold iz;split
    .rfl
    split<;>rfl
