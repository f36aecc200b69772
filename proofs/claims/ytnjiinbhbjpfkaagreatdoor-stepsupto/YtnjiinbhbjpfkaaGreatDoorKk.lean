import Derived.Test.YtnjiinbhbjpfkaaGreatDoorKg
set_option maxRecDepth 100000
set_option maxHeartbeats 0
set_option linter.all false
namespace Go.Proofs.YtnjiinbhbjpfkaaGreatDoor
open Go.RowKit Go.Proofs.Tryz
namespace D
open F
variable {p : dz} {d : Dp} {K : Nat} {s : Pl} {m m' : Dm} {g g' : Dg} {w w' : World} {ρ : Nat → Nat}
theorem JT{t tb fb n nr a b c:Nat}(hP:PD p d)(hG:∀f,f<p.nf->2<=p.rg f/\p.rg f<=8)(h:dQ d m g w)(hS:eK p K s m ρ)(hR:Rn p s t)(hQ:qP p d s m g w ρ t tb fb n nr)(ha:a<nr)(hb:b<nr)(hc:c<nr)(hK:K<900000000)(hn1:s.nt+1<=500000000): Calls prog 227 #[P0 g.mb,.int .i64 (t:Int),.slice (some ⟨g.rb t n,0,none⟩) nr nr,jY 13 a b c] w λe w'=>∃(why:Int) (s':Pl),e=.returned (.int .i64 why)/\jD p s t (13,a,b,c) why s'/\∃m' g',Tr d m g w m' g' w'/\eK p K s' m' ρ:=by
 obtain⟨hn,hq⟩:=hS.small hR.ok;obtain⟨Z,a3,_,_⟩:=hQ.rc hb;obtain⟨bE,bC,_,_⟩:=hQ.rc hc;have aD:=hR.oq (by rw[hQ.r2];exact hb);have b3:=hR.oq (by rw[hQ.r2];exact hc);have a1:∀why,(iy s ((bw s t).R b)).2.2=false->why=4->jD p s t (13,a,b,c) why s:=λwhy hf e=>by
  subst e;exact⟨by show 4=pN _ _;rw[hf];rfl,by unfold kP;rw[aa (λe=>by rw[hf]at e;cases e.1)]⟩
 by_cases h0:((bw s t).R b).1=0
 .rw[om h0]at Z a3;rw[h0]at Z;refine(Cr hb Z a3).mono ?_;rintro e w' ⟨rfl,hg⟩;exact⟨4,s,rfl,a1 4 (by unfold iy;rw[aj (ag h0)]) rfl,m,g,(Tr.refl h).kept hg,hS⟩
 obtain⟨e1,e2,e3,e4,e5⟩:=hS.Gf hR.ok aD h0;rw[e1]at Z a3;obtain⟨cb,k1,k2,k3,k4,k5⟩:=h.cc e2 e3;obtain⟨z,hz⟩:∃z,ρ ((bw s t).R b).1=z+1:=⟨ρ ((bw s t).R b).1-1,by omega⟩;rw[hz]at Z e3 k4 k5;rw[dC]at k4 k5;have a8:LN w g.mb (g.rb t n) nr b c z cb m.nc (g.ro 3 0).2 (g.sb (z+1)) (m.M (z+1)).length 0 ((m.ck (z+1):Int)-1) (0,0) (0,0):=⟨hb,hc,by omega,by have:=hS.B.1;omega,Z,a3,k3,k4,k5,hQ.F.lt,h.M.lt,k2⟩;rw[hz]at e4 e5;by_cases hk:s.ck ((bw s t).R b).1=0
 .refine(Cq a8 (by rw[e5,hk];decide)).mono ?_;rintro e w' ⟨rfl,hg⟩;exact⟨4,s,rfl,a1 4 (by unfold iy;rw[aj (ab hk)]) rfl,m,g,(Tr.refl h).kept hg,hS⟩
 have aF:iy s ((bw s t).R b)=(s.ck ((bw s t).R b).1-1,(s.M ((bw s t).R b).1).getD 0 (0,0),true):=by unfold iy;rw[aa (λe=>e.elim h0 hk)]
 obtain⟨aM,aK⟩:=vK hR.ok aD (by rw[aF]);rw[aF]at aM aK;have aI:=(hS.C _ (B.oH.vi aD h0)).f hk;have cK:1<=(m.M (z+1)).length:=by
  rw[e4,dS];have:(s.M ((bw s t).R b).1).length≠0:=λe=>aI (cf.1 e);omega
 have b8:((m.ck (z+1):Int)-1)=((s.ck ((bw s t).R b).1-1:Nat):Int):=by rw[e5];omega
 have aT:=h.S (c:=z+1) (by omega) e3;have aV:kT (m.M (z+1)) 0=tr ρ ((s.M ((bw s t).R b).1).getD 0 (0,0)):=by
  unfold kT;rw[e4]
  cases hM:s.M ((bw s t).R b).1 with
  | nil=>exact ch hM aI
  | cons y l=>rfl
 obtain⟨y0,y1,_,_⟩:=Iz aT (a:=0) (by omega);rw[aV,Nat.zero_mul]at y0 y1;rw[b8]at a8;generalize cR:s.ck ((bw s t).R b).1-1=ff at *;generalize cM:(s.M ((bw s t).R b).1).getD 0 (0,0)=cy at *;generalize (m.M (z+1)).length=ml at *;have b1:=Mr (op:=13) (a:=a) a8;obtain⟨_,_,cJ,cU,_,_,_,_,_,lr,lb,lc⟩:=a8;have ls:=aT.lt;have cY:(b:Int)<(nr:Int):=by omega
 have cP:g.rb t n<w.heap.size+1:=by omega
 have q1:IntKind.i64.wrap ((z:Int)+1-1)=(z:Int):=fp (by omega);have q2:IntKind.i64.wrap (z:Int)=(z:Int):=by rw[bl,bd _ (by omega)]
 have q3:(z:Int)<(m.nc:Int):=by omega
 have q4:(0:Int)<=(z:Int):=by omega
 have q5:(((z:Int)+1) == 0)=false:=by rw[dK];omega
 have HF:=az b1;have HH:=az h;have HS:=az hS;have aB:=az hR;have HQ:=az hQ;have HY:=az (ay y0 y1);have HC:=az (ay bE bC);have a0:=az (ay aF (ay aM aK));have bQ:=az b3;have HP:=az hP;have bO:=az hG;clear h hS hR hQ y0 y1 bE bC aF aM aK b3 aD hP hG b1 a1 e1 e2 e4 e5 k1 k3 k4 k5 Z a3 aV aT aI b8 hz;go_in;go_wp2_with fail
 generalize (w.alloc (.cells #[.int .i64 ((13:Nat):Int),.int .i64 (a:Int),.int .i64 (b:Int),.int .i64 (c:Int)] 90)).alloc (.cells #[.int .i64 ((z:Int)+1),.int .i64 0] 115)=w2 at *;obtain⟨aA,i0,i1,i3,x0,aC,d0,d1,a9⟩:=HF.out;clear aA;go_quiet (fail)
 go_wp2_with fail
 clear i0 i1 i3 x0 aC d0 d1;obtain⟨aA,i0,i1,i3,x0,aC,d0,d1,a9⟩:=HF.out.drewN nq;have KG:=az aA;generalize w2.drewN nq=w3 at *;have c7:cb<w3.heap.size:=av w3 _ d0;have c9:g.mb<w3.heap.size:=av w3 _ aC;clear aA HF;go_cut [10] (λq wx=>∃X:Nat,q=.pointer (some ⟨X,0,none⟩)/\Hid (L4 w3 wx X (g.sb (z+1)) ml (ff:Int)))
 case first=>
  go_region
  all_goals
   go_wp2_with fail
   go_meet
   case rel=>exact⟨_,rfl,Mq _ _ _ _⟩
 case rest=>
  obtain⟨X,rfl,bD⟩:=hcut;obtain⟨g3,v0,v1,hX⟩:=bD.out;have o0:wc.cell? ⟨w.heap.size,0,none⟩=some (.int .i64 ((13:Nat):Int)):=(bh g3 (a:=⟨w.heap.size,0,none⟩) (by show w.heap.size<_;omega)).1.trans i0;have o1:=(bh g3 (a:=⟨w.heap.size,1,none⟩) (by show w.heap.size<_;omega)).1.trans i1;have o3:=(bh g3 (a:=⟨w.heap.size,3,none⟩) (by show w.heap.size<_;omega)).1.trans i3;have H:=az (an KG.out g3);have lw:w.heap.size<wc.heap.size:=by have:=g3.size;omega
  have lX:X<wc.heap.size:=av wc _ v0;clear bD g3 i0 i1 i3 x0 aC d0 d1 hX c7 c9 KG;have bP:=az (HH.out.kept H.out);have a5:=az (HQ.out.kept HH.out H.out);obtain⟨k,rfl⟩:∃k,t=k+1:=⟨t-1,by have:=aB.out.ht.1;omega⟩;have j6:=a5.out.T.c6;have jt:=a5.out.T.t0;rw[dC]at jt;have cV:(k:Int)<(m.nt:Int):=by have:=a5.out.dt.2;omega
  have q6:=fp (n:=k) (by omega);have q7:(0:Int)<=(k:Int):=by omega
  have q8:IntKind.i64.wrap (k:Int)=(k:Int):=by rw[bl,bd _ (by omega)]
  by_cases aR:n+1=20
  .go_wp2_with fail
   go_ret;refine⟨5,s,rfl,?_,m,g,(Tr.refl HH.out).kept H.out,HS.out⟩;have hl:(s.T (k+1)).fr.length=20:=by rw[<-(HS.out.T _ aB.out.lv).l,HQ.out.T.l];exact aR
   exact⟨by show 5=pN _ _;rw[a0.out.1,hl];rfl,by unfold kP;rw[aa (λe=>e.2 hl)]⟩
  have q9:¬((20:Int)<=(n:Int)+1):=by have:=HQ.out.n20;omega
  have aH:=(bh H.out (a:=⟨g.rb (k+1) n,c*2,none⟩) lr).1.trans HC.out.1;have b9:=(bh H.out (a:=⟨g.rb (k+1) n,c*2+1,none⟩) lr).1.trans HC.out.2;have aQ:=(bh H.out (a:=⟨g.sb (z+1),0,none⟩) ls).1.trans HY.out.1;have b6:=(bh H.out (a:=⟨g.sb (z+1),1,none⟩) ls).1.trans HY.out.2;have cQ:(c:Int)<(nr:Int):=by omega
  have cN:0<ml:=by omega
  have bF:g.rb (k+1) n<wc.heap.size:=av wc _ aH;have b0:g.sb (z+1)<wc.heap.size:=av wc _ aQ;have cT:g.mb<wc.heap.size:=av wc _ j6;have aU:=az (HP.out.rg ff a0.out.2.1);have aN:Hid (∀w1,wc.grownBy w1 none->Calls prog 74 #[P0 g.mb,.int .i64 (ff:Int),vA (tr ρ ((bw s (k+1)).R c)),vA (tr ρ cy),.int .i64 (a:Int)] w1 λe w'=>∃b',e=.returned (.agg #[.int .i64 (ff:Int),.slice (some ⟨b',0,none⟩) (d.rg ff) (d.rg ff),.int .i64 0,.int .i64 (a:Int)])/\w1.heap.size<=b'/\Full w' b' 115 (d.rg ff*2) (d.rg ff*2) (eC (gh (tr ρ ((bw s (k+1)).R c)) (tr ρ cy)))/\w1.grownBy w' none):=λw1 c2=>by
   have bA:=bP.out.kept c2;have c4:=bA.P.2.2;have cH:ff<d.nf:=by rw[HP.out.nf];exact a0.out.2.1
   have:=bO.out ff a0.out.2.1;refine xL (bA.mc 0 (by omega) rfl).1 (r0:=d.rg ff) ?_ cH (by rw[aU.out];exact this.1) (by rw[aU.out];exact this.2);rw[c4.cell (ff*2) (by omega)];unfold JC;rw[aj (by omega),show ff*2 / 2=ff by omega]
  generalize b4:tr ρ ((bw s (k+1)).R c)=va at *;generalize aY:tr ρ cy=vc at *;have aZ:=az (ay b4 aY);clear b4 aY;go_wp2_with fail
  obtain⟨W,bV⟩:∃x:World,x=wc:=⟨_,rfl⟩;subst bV;go_cut [11] (λq wx=>∃Y b':Nat,q=.pointer (some ⟨Y,0,none⟩)/\Hid (LM W wx Y b' ff a (d.rg ff) va vc))
  case first=>
   have a6:Hid (∀w',W.grownBy w' none->w'.cell? ⟨X,0,none⟩=some (.slice (some ⟨g.sb (z+1),0,none⟩) ml ml)/\w'.cell? ⟨X,1,none⟩=some (.int .i64 (ff:Int))/\w'.cell? ⟨w.heap.size,1,none⟩=some (.int .i64 (a:Int))/\w'.cell? ⟨w.heap.size,3,none⟩=some (.int .i64 (c:Int))/\w'.cell? ⟨g.rb (k+1) n,c*2,none⟩=some (.int .i64 (va.1:Int))/\w'.cell? ⟨g.rb (k+1) n,c*2+1,none⟩=some (.int .i64 va.2)/\w'.cell? ⟨g.sb (z+1),0,none⟩=some (.int .i64 (vc.1:Int))/\w'.cell? ⟨g.sb (z+1),1,none⟩=some (.int .i64 vc.2)):=λw' hg=>⟨(bh hg (a:=⟨X,0,none⟩) lX).1.trans v0,(bh hg (a:=⟨X,1,none⟩) lX).1.trans v1,(bh hg (a:=⟨w.heap.size,1,none⟩) lw).1.trans o1,(bh hg (a:=⟨w.heap.size,3,none⟩) lw).1.trans o3,(bh hg (a:=⟨g.rb (k+1) n,c*2,none⟩) bF).1.trans aH,(bh hg (a:=⟨g.rb (k+1) n,c*2+1,none⟩) bF).1.trans b9,(bh hg (a:=⟨g.sb (z+1),0,none⟩) b0).1.trans aQ,(bh hg (a:=⟨g.sb (z+1),1,none⟩) b0).1.trans b6⟩;go_region_held3 (λw'=>w'.cell? ⟨X,0,none⟩=some (.slice (some ⟨g.sb (z+1),0,none⟩) ml ml)/\w'.cell? ⟨X,1,none⟩=some (.int .i64 (ff:Int))/\w'.cell? ⟨w.heap.size,1,none⟩=some (.int .i64 (a:Int))/\w'.cell? ⟨w.heap.size,3,none⟩=some (.int .i64 (c:Int))/\w'.cell? ⟨g.rb (k+1) n,c*2,none⟩=some (.int .i64 (va.1:Int))/\w'.cell? ⟨g.rb (k+1) n,c*2+1,none⟩=some (.int .i64 va.2)/\w'.cell? ⟨g.sb (z+1),0,none⟩=some (.int .i64 (vc.1:Int))/\w'.cell? ⟨g.sb (z+1),1,none⟩=some (.int .i64 vc.2)) (first|exact a6.out _ (bq (ax _ _))|exact a6.out _ (au (bq (ax _ _)) _)|exact a6.out _ a2.out|exact a6.out _ (au a2.out _)|exact a6.out _ (bp (bp (bp (bp a2.out (ab (bj _)) _) (ab (bj _)) _) (ab (bj _)) _) (ab (bj _)) _)) (first|(go_at_call 74;refine(aN.out W.drew (bq (ax _ _))).mono ?_;rintro e w5 ⟨b',rfl,a7,a4,J⟩;have a2:Hid (W.grownBy w5 none):=⟨J.os,J.tape,J.output,J.size,J.block⟩;have aO:=az a4;have aS:Hid (W.heap.size<=b'):=a7;clear J a4 a7)|(go_at_call 74;refine(aN.out (W.drew.alloc (.cells #[.int .i64 0,.slice none 0 0,.int .i64 0,.int .i64 0] 163)) (au (bq (ax _ _)) _)).mono ?_;rintro e w5 ⟨b',rfl,a7,a4,J⟩;have a2:=az (an (au (bq (ax _ _)) _) J);have aO:=az a4;have aS:=az (by have h9:=a7;simp at h9;exact h9);have hy:w5.heap[W.heap.size]? = some (.cells #[.int .i64 0,.slice none 0 0,.int .i64 0,.int .i64 0] 163 (0,0)):=cm J (bf W.drew _) (by intro e;cases e);have ya:w5.cell? ⟨W.heap.size,0,none⟩=some (.int .i64 0):=(by simp[World.cell?,hy]);have yb:w5.cell? ⟨W.heap.size,1,none⟩=some (.slice none 0 0):=(by simp[World.cell?,hy]);have yc:w5.cell? ⟨W.heap.size,2,none⟩=some (.int .i64 0):=(by simp[World.cell?,hy]);have yd:w5.cell? ⟨W.heap.size,3,none⟩=some (.int .i64 0):=(by simp[World.cell?,hy]);have za:w5.frozen? ⟨W.heap.size,0,none⟩=false:=(by simp[World.frozen?,hy]);have zb:w5.frozen? ⟨W.heap.size,1,none⟩=false:=(by simp[World.frozen?,hy]);have zc:w5.frozen? ⟨W.heap.size,2,none⟩=false:=(by simp[World.frozen?,hy]);have zd:w5.frozen? ⟨W.heap.size,3,none⟩=false:=(by simp[World.frozen?,hy]);have bN:=az hy;clear hy J a4 a7))
   all_goals
    go_wp2_with fail
    go_meet
    case rel=>
     first
      | exact⟨_,_,rfl,Lr a2.out aO.out aS.out⟩
      | exact⟨_,_,rfl,Lp a2.out aO.out aS.out bN.out⟩
  case rest=>
   obtain⟨Y,b',rfl,aW⟩:=hcut;obtain⟨g4,hy,bU,cO,b5⟩:=aW.out;have aJ:=az (an H.out g4);have i:=az (HQ.out.kept HH.out aJ.out);have bG:=az (HH.out.kept aJ.out);have t6:=i.out.T.c6;have tt:=i.out.T.t0;rw[dC]at tt;have zt:wc.frozen? ⟨tb,k*8,none⟩=false:=by
    obtain⟨bH,e1,_,tc⟩:=bG.out.tc i.out.dt;have:bH=tb:=by
     have:=i.out.T.b;rw[e1]at this;injection this with this _;injection this with this;injection this with this _
    subst this;have:=(tc.c 0 (by omega)).2;rw[Nat.add_zero,dC]at this;exact this
   have ya:wc.cell? ⟨Y,0,none⟩=some (.int .i64 (ff:Int)):=by simp[World.cell?,hy]
   have yb:wc.cell? ⟨Y,1,none⟩=some (.slice (some ⟨b',0,none⟩) (d.rg ff) (d.rg ff)):=by simp[World.cell?,hy]
   have yc:wc.cell? ⟨Y,2,none⟩=some (.int .i64 0):=by simp[World.cell?,hy]
   have yd:wc.cell? ⟨Y,3,none⟩=some (.int .i64 (a:Int)):=by simp[World.cell?,hy]
   have bJ:=az b5;have c3:w.heap.size<=b':=by omega
   have aE:=i.out.T.l;have aL:=i.out.T.a;have cA:Hid (wc.ownsRow 0 163 4 (.slice (some ⟨fb,0,none⟩) (n+1) (g.ro 5 (k+1)).2) (n+1) (rowP ((n+1)*4) (fE d m g (k+1)))):=by
    have:=bG.out.Fw i.out.dt;unfold iR at this;rw[aL,show qz m 5 (k+1)=n+1 from aE,aE]at this;exact this
   have b2:Hid (∀j,(Value.slice (some ⟨fb,0,none⟩) (n+1) (g.ro 5 (k+1)).2).ownBlock=some j->j=fb):=λj G=>by simpa[Value.ownBlock] using G.symm
   have c8:fb<wc.heap.size:=i.out.T.lf;have bX:tb<wc.heap.size:=i.out.T.lt;have cF:g.mb<wc.heap.size:=av wc _ t6;have lY:Y<wc.heap.size:=av wc _ ya;have cD:g.mb≠fb:=i.out.T.n1;have bM:tb≠fb:=i.out.T.n2;have bS:Y≠fb:=λe=>by
    have h1:=HQ.out.T.lf;omega
   have b7:=az aE;have bI:=az aL;obtain⟨cG,bT,bR,bK,bZ⟩:=info_parts Tryz.Fe;have cC:Hid (∀w':World,w'.heap[g.mb]? = wc.heap[g.mb]?->w'.heap[tb]? = wc.heap[tb]?->w'.heap[Y]? = wc.heap[Y]?->w'.cell? ⟨g.mb,6,none⟩=some (.slice (some ⟨tb,0,none⟩) m.nt (g.ro 1 0).2)/\w'.cell? ⟨tb,k*8,none⟩=some (.slice (some ⟨fb,0,none⟩) (n+1) (g.ro 5 (k+1)).2)/\w'.frozen? ⟨tb,k*8,none⟩=false/\w'.cell? ⟨Y,0,none⟩=some (.int .i64 (ff:Int))/\w'.cell? ⟨Y,1,none⟩=some (.slice (some ⟨b',0,none⟩) (d.rg ff) (d.rg ff))/\w'.cell? ⟨Y,2,none⟩=some (.int .i64 0)/\w'.cell? ⟨Y,3,none⟩=some (.int .i64 (a:Int))):=λw' e1 e2 e3=>⟨(aw (a:=⟨g.mb,6,none⟩) e1).trans t6,(aw (a:=⟨tb,k*8,none⟩) e2).trans tt,(dg (a:=⟨tb,k*8,none⟩) e2).trans zt,(aw (a:=⟨Y,0,none⟩) e3).trans ya,(aw (a:=⟨Y,1,none⟩) e3).trans yb,(aw (a:=⟨Y,2,none⟩) e3).trans yc,(aw (a:=⟨Y,3,none⟩) e3).trans yd⟩;have bB:Hid (∀(o:Obj) (j:Nat),j<wc.heap.size->(wc.drew.alloc o).heap[j]? = wc.heap[j]?):=λo j G=>ak wc.drew o j G
   clear aW g4 hy bU b5 aE aL jt j6 aH b9 aQ b6 v0 v1 o0 o1 o3 lX lw aN;go_wp2_with fail
   go_cut [] (λwx=>Hid (∃g1,Tr d m g w (m.push (k+1) ⟨ff,0,gh va vc,(13,a,b,c)⟩) g1 wx))
   case first=>
    go_region_law (refine eS _ rfl (.tmp 86) (.tmp 88) 165 rfl 163 cG _ 4 48 Tryz.underlying165 bT bR bK bZ rfl (by decide) (some ⟨fb,0,none⟩) (n+1) (g.ro 5 (k+1)).2 (rowP ((n+1)*4) (fE d m g (k+1))) (by first|rfl|simp[Act.eval,Act.put]) (dD cA.out (λj G=>bB.out _ _ (by rw[b2.out j G];exact c8))) ⟨wc.heap.size,0,none⟩ 1 1 [.int .i64 (ff:Int),.slice (some ⟨b',0,none⟩) (d.rg ff) (d.rg ff),.int .i64 0,.int .i64 (a:Int)] (by first|rfl|simp[Act.eval,Act.put]) rfl (by intro j u G;match j,G with|0,G=>(simp at G;subst G;simp[Addr.add,go_sem])|1,G=>(simp at G;subst G;simp[Addr.add,go_sem])|2,G=>(simp at G;subst G;simp[Addr.add,go_sem])|3,G=>(simp at G;subst G;simp[Addr.add,go_sem])) (by simp[Value.oneCell']) (by unfold maxLen;omega) (by omega) (by decide) ?_;intro v' w6 ho aG aX;obtain⟨kb,cL,rfl⟩:=dM ho (by omega);have c5:=az ho;have cB:=az aG;have bL:=az aX;have KO:Hid (∀j,j<wc.heap.size->j≠fb->w6.heap[j]? = wc.heap[j]?):=(λj G hn=>(aG.block j (by first|(simp;omega)|omega) (λh=>hn (b2.out j h.symm))).trans (bB.out _ _ G));obtain⟨s6,sT,sz,sa,sb,sc,sd⟩:=cC.out w6 (KO.out _ cF cD) (KO.out _ bX bM) (KO.out _ lY bS);clear ho aG aX)
    all_goals
     go_wp2_with fail
     go_meet
     case rel=>
      have ho:=c5.out;have hg:=cB.out;have hm:=bL.out;rw[<-b7.out]at ho ⊢;rw[<-b7.out,<-bI.out]at hg hm;obtain⟨g1,h1⟩:=GY (t:=k+1) (tb:=tb) (f:=⟨ff,0,gh va vc,(13,a,b,c)⟩) HH.out HQ.out.dt HQ.out.T.b aJ.out bJ.out c3 ho hg hm rfl ⟨rfl,rfl,rfl⟩;rw[dC]at h1;exact⟨g1,h1⟩
   case rest=>
    have aP:Hid (∃g1,Tr d m g w (m.push (k+1) ⟨ff,0,gh va vc,(13,a,b,c)⟩) g1 wc):=hcut;clear hcut;go_wp2_with fail
    go_ret;obtain⟨g1,h1⟩:=aP.out;have hl:(s.T (k+1)).fr.length=n+1:=by rw[<-(HS.out.T _ aB.out.lv).l,HQ.out.T.l]
    refine⟨0,kP s (k+1) (13,a,b,c),rfl,⟨?_,rfl⟩,_,g1,h1,?_⟩
    .show 0=pN _ _;rw[a0.out.1,hl];unfold pN;rw[aa (by intro e;cases e),aa aR]
    unfold kP;rw[a0.out.1,aj ⟨rfl,by rw[hl];exact aR⟩];refine HS.out.push aB.out.lv ⟨rfl,rfl,λ_=>rfl,λj G=>?_⟩ (λj _=>pn bQ.out a0.out.2.2 j);show gh va vc j=tr ρ (gh ((bw s (k+1)).R c) cy j);rw[<-aZ.out.1,<-aZ.out.2];unfold gh;split
    .rfl
    split<;>rfl
