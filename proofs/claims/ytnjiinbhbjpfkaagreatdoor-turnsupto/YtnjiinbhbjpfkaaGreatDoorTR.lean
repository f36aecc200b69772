import Derived.Test.YtnjiinbhbjpfkaaGreatDoorTM
import Derived.Deep.LoopGhost
set_option maxRecDepth 100000
set_option maxHeartbeats 0
set_option linter.all false
namespace Go.Proofs.YtnjiinbhbjpfkaaGreatDoor
open Go.RowKit Go.Proofs.Tryz
section
def zB(w:aa)(xb tb:Nat)(v:B.V):Prop:=w.heap[xb]? = some (.cells #[P0 tb] 155 (0,0))/\w.heap[xb+1]? = some (.cells #[.int .i64 (v.1:Int),.int .i64 v.2] 149 (0,0))
theorem JE(eb tb kind t n c:Nat)(x:Int)(v:B.V)(ad:Option Addr)(S1 S3:aa->Prop)(S2:Value->aa->Prop)(I:List Nat->aa->Prop)(sx:Nat->Nat)(xs:List Nat)(w:aa)(H1:∀w1,w.grownBy w1 none->zB w1 w.heap.size tb v->eL 133 #[P0 tb] w1 λw2=>S1 w2)(aF:∀w1,S1 w1->zB w1 w.heap.size tb v/\(∃Tk,Full w1 tb 160 7 7 Tk)/\(w1.setCell (ay tb 2) (.bool false)).cell? (ay eb 29)=some (.slice ad n c)/\eb<w1.heap.size)(H2:∀w1,S1 w1->Calls prog 209 #[.slice ad n c,Fv 210 #[P0 w.heap.size]] (w1.setCell (ay tb 2) (.bool false)) λe w2=>∃a' n' Z,e=.returned (.slice a' n' Z)/\S2 (.slice a' n' Z) w2)(aH:∀lv w2,S2 lv w2->zB (w2.setCell (ay eb 29) lv) w.heap.size tb v/\(∃E,Full w2 eb 144 44 44 E)/\(w2.setCell (ay eb 29) lv).cell? (ay tb 0)=some (aj t)/\tb<w2.heap.size)(H3:∀lv w2 G,S2 lv w2->(w2.setCell (ay eb 29) lv).grownBy G none->eL 211 #[P0 eb,aj t,vA v] G λi=>S3 i)(a8:∀G,S3 G->zB G w.heap.size tb v)(H4:∀G,S3 G->eL 173 #[P0 eb,aj kind,P0 tb,aj x] G λi=>I xs i)(hI:∀ys i,I ys i->zB i w.heap.size tb v/\tb<i.heap.size/\(∀Y,i.grownBy Y none->I ys Y)/\(ys=[]->∃a' Z,i.cell? (ay tb 6)=some (.slice a' 0 Z))/\(∀y r,ys=y :: r->∃q Z,i.cell? (ay tb 6)=some (dA q (r.length+1) Z)/\i.cell? (ay q 0)=some (P0 y)/\i.cell? (ay y 4)=some (Fv 207 #[P0 (sx y)])/\y<i.heap.size))(HL:∀y r i,I (y :: r) i->eL 207 #[vA v,P0 (sx y)] i λY=>I r Y): eL 175 #[P0 eb,P0 tb,vA v,aj kind,aj x] w λw'=>I [] w':=by
 change Hid _ at H1 aF H2 aH H3 a8 H4 hI HL;obtain⟨v1,v2⟩:=v;delta eL;go_in;go_wp2_with fail
 generalize a4:(w.alloc (.cells #[P0 tb] 155)).alloc (.cells #[aj v1,aj v2] 149)=w1;have aA:w.grownBy w1 none:=by rw[<-a4];exact ax (ax (aw _ _) _) _
 have aG:zB w1 w.heap.size tb (v1,v2):=by
  rw[<-a4];constructor
  .rw[av _ _ _ eB];exact bl _ _
  have h1:=bl (w.alloc (.cells #[P0 tb] 155)) (.cells #[aj v1,aj v2] 149);have h2:(w.alloc (.cells #[P0 tb] 155)).heap.size=w.heap.size+1:=eB
  rw[h2]at h1;exact h1
 have KX:=bj (H1 w1 aA aG);clear a4 aA aG;refine du KX λw2 a1=>?_;obtain⟨a7,⟨Tk,hT⟩,b9,b6⟩:=aF w2 a1;have x0:dS w2 w.heap.size 0=some (P0 tb):=fy a7.1
 obtain⟨t2,z2⟩:=hT.cells 2 ag;generalize Tk 2=y2 at t2;change Hid _ at a1;clear a7 hT;go_wp2_with fail
 refine(H2 w2 a1).mono ?_;rintro e G ⟨a',n',Z,rfl,a3⟩;obtain⟨aE,⟨E3,a0⟩,b3,aN⟩:=aH _ G a3;obtain⟨aI,aO⟩:=a0.cells 29 ag;generalize E3 29=b4 at aI;change Hid _ at a3 aE;clear a0 x0 t2 z2;go_wp2_with fail
 generalize a5:G.setCell (ay eb 29) (.slice a' n' Z)=i at *;have aP:i.heap.size=G.heap.size:=by rw[<-a5];simp[World.setCell]
 have x0:dS i w.heap.size 0=some (P0 tb):=fy aE.1
 have x1:dS i (w.heap.size+1) 0=some (aj v1):=fy aE.2
 have x2:dS i (w.heap.size+1) 1=some (aj v2):=fy aE.2
 have aL:Hid (∀Y,i.grownBy Y none->eL 211 #[P0 eb,aj t,vA (v1,v2)] Y λw6=>S3 w6):=λY hg=>H3 _ G Y a3 (eV a5 hg);clear a5 aP aI aO aN;go_wp2
 go_cut [] (λwx=>Hid (S3 wx))
 case first=>
  go_region_with (go_at_call 211;refine du (aL i.drew (bo (aw _ _))) λw6 aB=>?_;have W:=bj aB;clear aB)
  all_goals
   go_wp2
   go_meet
   case rel=>exact W
 case rest=>
  have W:=hcut;have a6:=a8 wc W;have q0:dS wc w.heap.size 0=some (P0 tb):=fy a6.1
  clear a6;go_wp2_with fail
  refine du (H4 wc W) λw6 aD=>?_;change Hid _ at aD;clear q0 x0 x1 x2;go_wp2
  go_loopg [] (xs.length) (λn wr=>∃ys:List Nat,ys.length=n/\Hid (I ys wr))
  case atStart=>exact⟨xs,rfl,aD⟩
  case round=>
   obtain⟨ys,aK,rI⟩:=hrel;obtain⟨H,b5,a9,u,o⟩:=hI ys wr rI;have q0:dS wr w.heap.size 0=some (P0 tb):=fy H.1
   have q1:dS wr (w.heap.size+1) 0=some (aj v1):=fy H.2
   have q2:dS wr (w.heap.size+1) 1=some (aj v2):=fy H.2
   have lq:=ch H.1;have b7:=ch H.2;change Hid _ at a9;clear H aD
   cases ys with
   | nil=>
    obtain⟨a2,c2,c6⟩:=u rfl;have hE:=gL tb 6 0 c2 a2 wr c6;simp only[decide_true]at hE;change Hid _ at hE;clear u o;go_wp2_with fail
    refine du hE ?_;rintro w8 rfl;go_wp2
    go_end0;exact⟨rfl,rI⟩
   | cons y r=>
    obtain⟨q,c2,c6,cq,c4,ly⟩:=o y r rfl;have hE:=gL tb 6 (r.length+1) c2 (some (ay q 0)) wr c6;have hd:decide ((r.length+1:Nat)=0)=false:=eB
    rw[hd]at hE;have hE:=bj hE;have aQ:=bj (λ(w':aa) (h:dS w' tb 6=some (dA q (r.length+1) c2)) (h2:dS w' q 0=some (P0 y))=>pQ tb 6 r.length c2 q y w' h h2);have aY:=bj (λ(w':aa) (hg:wr.grownBy w' none)=>HL y r w' (a9 w' hg));clear hE hd u o;go_wp2_with fail
    refine du hE ?_;rintro w8 rfl;go_wp2
    go_region_with (first|(go_at_call 132;refine(aQ _ ?_ ?_).mono ?_;exact c6;exact cq;rintro e w9 ⟨rfl,rfl⟩)|(go_at_call 207;refine du (aY w8.drew (bo (aw _ _))) λw9 aJ=>?_;have aT:=bj aJ;clear aJ))
    all_goals
     go_wp2
     go_roundg (r.length)
     case measure=>first|omega|(simp at aK;omega)
     case rel=>exact⟨r,rfl,aT⟩
end
namespace F
theorem C7(op a b c fb tb eb cb L nx rb nr sb pb n:Nat)(back:Value)(kd:B.Kd)(vb:Vs)(R:Nat->B.V)(M:Nat->List B.V)(w:aa)(hF:Fr w fb cb L nx rb nr back R)(hS:kD w sb pb eb n kd vb M)(hV:∀i,i<nr->B.sG kd.on n (R i))(hn:n<=200)(ha:a<nr)(hb:b<nr)(hc:c<nr)(aE:w.cell? (ay eb 27)=some (P0 sb))(le:eb<w.heap.size)(aG:eb≠rb): Calls prog 101 #[ed op a b c fb tb eb] w λe w'=>(mJ vb.f M (R b) (R c)/\e=.returned (aj 0)/\w.grownBy w' (some rb)/\Fr w' fb cb L nx rb nr back (B.set R a ((M (R b).1).getD (R c).2.toNat (0,0))))\/(¬mJ vb.f M (R b) (R c)/\e=.returned (aj (iP vb.f (R b) (R c)))/\w.grownBy w' none):=by
 have KF:=bj hF;have KS:=bj hS;have HV:=bj hV;have aQ:Hid (eb≠rb):=aG;clear hF hS hV aG;go_in;go_wp2_with fail
 have aB:=bj (iN w op a b c fb tb eb);have a9:=bj (ak w (.cells #[dy (op:Int),dy (a:Int),dy (b:Int),dy (c:Int),P0 fb,P0 tb,P0 eb] 186) none);generalize hW:w.alloc (.cells #[dy (op:Int),dy (a:Int),dy (b:Int),dy (c:Int),P0 fb,P0 tb,P0 eb] 186)=w1 at *;have b0:w1.heap.size=w.heap.size+1:=by rw[<-hW];simp
 clear hW;go_region_held3 (λw'=>w'.cell? (ay w.heap.size 0)=some (dy (op:Int))/\w'.cell? (ay w.heap.size 1)=some (dy (a:Int))/\w'.cell? (ay w.heap.size 2)=some (dy (b:Int))/\w'.cell? (ay w.heap.size 3)=some (dy (c:Int))/\w'.cell? (ay w.heap.size 4)=some (P0 fb)/\w'.cell? (ay w.heap.size 5)=some (P0 tb)/\w'.cell? (ay w.heap.size 6)=some (P0 eb)) (first|exact eZ aB.out|exact eZ aL.out|exact eZ aK.out|exact eZ a6.out) (first|(go_at_call 86;refine du (rz op a b c fb tb eb cb L nx rb nr back R w1.drew (KF.out.kept (bo a9.out)).1 (KF.out.kept (bo a9.out)).2.1 hb) λw2 a8=>?_;have a4:=bj (ar (bo a9.out) a8);have aL:=bj (dv a8 (show w1.drew.heap[w.heap.size]? = _ from aB.out));clear a8)|(go_at_call 94;refine du (sX op a b c fb tb eb cb L nx rb nr back R w2 (KF.out.kept a4.out).1 (KF.out.kept a4.out).2.1 hc) λw3 a1=>?_;have Y:=bj (ar a4.out a1);have aK:=bj (dv a1 aL.out);clear a1)|(go_at_call 158;refine(yf op a b c fb tb eb sb pb n (R b) (R c) kd vb M w3 (KS.out.kept Y.out) hn (HV.out b hb) ((bd Y.out (a:=ay eb 27) le).1.trans aE) (dm le Y.out.size)).mono ?_;rintro e w4 ⟨v,rfl,a5,a2⟩;have G:=bj (ar Y.out a5);have a6:=bj (dv a5 aK.out);obtain⟨pv,wy,rfl⟩:∃(pv:Value) (wy:Int),v=.tuple #[pv,aj wy]:=(by rcases a2 with⟨_,h⟩|⟨_,h⟩;exact⟨_,_,h⟩;exact⟨_,_,h⟩);have aR:=bj a2;clear a5 a2))
 all_goals
  rcases aR.out with⟨H,he⟩|⟨H,he⟩
  .have aA:=bj H;obtain⟨o1,ok,o2,o3,o4⟩:=id H;have hp:1<=(R b).1/\(R b).1<=n/\kd.on (R b).1=true:=by
    rcases HV.out b hb with h|h
    .exact dp h o1
    exact⟨h.1,h.2.1,h.2.2.1⟩
   injection he with he;injection he with he;injection he with a7 o;injection o with o _;injection o with _ o;subst a7 o;obtain⟨i,hi⟩:∃i:Nat,(R c).2=(i:Int):=⟨(R c).2.toNat,ag⟩;obtain⟨k,hk⟩:∃k,(R b).1=k+1:=⟨(R b).1-1,ag⟩;have aM:i<(M (k+1)).length:=by rw[hi,hk]at o4;omega
   have aD:∀w':aa,w.grownBy w' none->dD 159 #[P0 sb,vA (R b),aj (R c).2] w' (vA ((M (R b).1).getD (R c).2.toNat (0,0))) λw''=>w'.grownBy w'' none:=by
    intro w' hg;have e1:R b=(k+1,(R b).2):=fV hk rfl;rw[hk,hi];have:=zP sb pb eb n k i (R b).2 kd vb M w' (KS.out.kept hg) hn ag (by rw[<-hk];exact hp.2.2) aM;rw[<-e1]at this;exact this
   have aS:=bj aD;generalize a0:(M (R b).1).getD (R c).2.toNat (0,0)=aU at *;have aC:=bj a0;generalize aJ:(R c).2=yy at *;have aN:=bj aJ;clear aJ;clear H ok o1 o2 o3 o4 hp hi hk aM aD a0;have W:=bj (KF.out.kept G.out);obtain⟨x0,x1,x2,x3,x4,x5,x6⟩:=eZ a6.out;have lx:=ch a6.out;have u:w.heap.size≠rb:=gp KF.out.2.1.lt
   have aT:eb≠rb:=by have:=aQ.out;exact this
   have HS:Hid (∀w':aa,dM (λk=>k=rb) w4 w'->(w'.cell? (ay w.heap.size 0)=some (dy (op:Int))/\w'.cell? (ay w.heap.size 1)=some (dy (a:Int))/\w'.cell? (ay w.heap.size 2)=some (dy (b:Int))/\w'.cell? (ay w.heap.size 3)=some (dy (c:Int))/\w'.cell? (ay w.heap.size 4)=some (P0 fb)/\w'.cell? (ay w.heap.size 5)=some (P0 tb)/\w'.cell? (ay w.heap.size 6)=some (P0 eb)/\w'.cell? (ay eb 27)=some (P0 sb))):=
    λw' hO=>⟨(hO.cell lx u).trans x0,(hO.cell lx u).trans x1,(hO.cell lx u).trans x2,(hO.cell lx u).trans x3,(hO.cell lx u).trans x4,(hO.cell lx u).trans x5,(hO.cell lx u).trans x6,(hO.cell ag aT).trans ((bd G.out (a:=ay eb 27) le).1.trans aE)⟩
   have aO:=bj (HS.out w4.drew (dw _ _));go_wp2_with fail
   go_region_held3 (λw'=>w'.cell? (ay w.heap.size 0)=some (dy (op:Int))/\w'.cell? (ay w.heap.size 1)=some (dy (a:Int))/\w'.cell? (ay w.heap.size 2)=some (dy (b:Int))/\w'.cell? (ay w.heap.size 3)=some (dy (c:Int))/\w'.cell? (ay w.heap.size 4)=some (P0 fb)/\w'.cell? (ay w.heap.size 5)=some (P0 tb)/\w'.cell? (ay w.heap.size 6)=some (P0 eb)/\w'.cell? (ay eb 27)=some (P0 sb)) (first|exact aO.out|exact aW.out|exact aY.out|exact aV.out) (first|(go_at_call 86;refine du (rz op a b c fb tb eb cb L nx rb nr back R w4.drew (W.out.kept (bo (aw _ _))).1 (W.out.kept (bo (aw _ _))).2.1 hb) λw5 y=>?_;have a3:Hid (w4.grownBy w5 none):=⟨y.os,y.tape,y.output,y.size,y.block⟩;have aW:=bj (HS.out w5 (ep a3.out));clear y)|(go_at_call 159;refine du (aS.out w5 (ar G.out a3.out)) λw6 aI=>?_;have J:=bj (ar a3.out aI);have aY:=bj (HS.out w6 (ep J.out));clear aI)|(go_at_call 149;refine du (kH op a b c fb tb eb cb L nx rb nr back R aU w6 (W.out.kept J.out).1 (W.out.kept J.out).2.1 ha) ?_;rintro w7 ⟨Z,aH⟩;have aV:=bj (HS.out w7 ((ep (S:=λk=>k=rb) J.out).then Z (af rfl)));have HR:=bj (bh (ar (eT (ar G.out J.out)) Z) (bh (da Z (W.out.kept J.out).1 (by intro e;injection e with e;exact KF.out.2.2 e)) aH));clear Z aH))
   all_goals
    go_wp2_with fail
    go_ret;exact af ⟨aA.out,rfl,HR.out.1,HR.out.2.1,by rw[aN.out,aC.out];exact HR.out.2.2,KF.out.2.2⟩
  have aX:=uf vb.f (R b) (R c);generalize aF:iP vb.f (R b) (R c)=why at *;have aP:=bj aF;injection he with he;injection he with he;injection he with a7 o;injection o with o _;injection o with _ o;subst a7 o;have aA:=bj H;have aZ:¬((why:Int)=0):=ag
  clear H aF aX;go_wp2_with fail
  go_ret;exact ah ⟨aA.out,jx aP.out,G.out⟩
end F
section
theorem Bg(x tb G:Nat)(w:aa)(h:w.cell? ⟨G,0,none⟩=some (P0 tb))(W:jF w tb 160 7)(hX:jF w x 160 7): Calls prog 210 #[P0 x,P0 G] w λe w'=>e=.returned (.bool (decide (x=tb)))/\w'=w:=by
 obtain⟨i0,hi,Y,o,H⟩:=info_parts Tryz.Bo;by_cases i:x=tb
 .subst i;have J:=λ(w:aa)=>run_eql_ptr_same (P:=prog) (w:=w) (tp:=155) (te:=160) ⟨x,0,none⟩ underlying155 hi;go_in;go_wp2_with fail
  go_ret;simp_all
 obtain⟨ct,bt,_⟩:=W;obtain⟨Z,u,_⟩:=hX;have y:=run_eql_ptr_other (P:=prog) (w:=w) (tp:=155) (te:=160) (a:=⟨x,0,none⟩) (b:=⟨tb,0,none⟩) underlying155 hi ag eR u bt;go_in;go_wp2_with fail
 go_ret;simp_all
theorem Lr(g c n tb Y:Nat)(xs:List Nat)(w:aa)(hn:n=xs.length)(a0:n<=1000000000)(Z:∀j x,xs[j]? = some x->w.cell? (ay g j)=some (P0 x))(hx:w.cell? (ay Y 0)=some (P0 tb))(hT:jF w tb 160 7)(hX:∀x,x∈xs->jF w x 160 7)(hm:tb∈xs): dD 205 #[dA g n c,Fv 210 #[P0 Y]] w (aj (xs.idxOf tb:Nat)) λw'=>w'=w:=by
 have W:=List.idxOf_lt_length_of_mem hm;have HC:=bj Z;have HT:=bj hT;have HX:=bj hX;have HL:=bj W;have HN:=bj hn;have HB:=bj hx;clear Z hT hX W hm hn hx;delta dD;go_in;go_wp2_with fail
 go_loopw [8] (λi wr=>∃j:Nat,i=aj j/\j<=xs.idxOf tb/\wr=w) (λi _=>xs.idxOf tb-(intOf i).toNat)
 case atStart=>grind
 case round=>
  obtain⟨j,rfl,hj,rfl⟩:=hrel;have a1:j<n:=by have:=HL.out;have:=HN.out;omega
  obtain⟨x,hx⟩:∃x,xs[j]? = some x:=⟨_,bz (gp HN.out)⟩;have cj:=HC.out j x hx;have H:=Bg x tb Y wr HB.out HT.out (HX.out x (eh hx));have J:=bj H;clear H;by_cases y:j=xs.idxOf tb
  .have o:x=tb:=by
    have:=List.getElem_idxOf (x:=tb) HL.out;rw[cf]at hx;obtain⟨h1,h2⟩:=hx;subst y;rw[<-h2];exact this
   have HJ:=bj y;have u:=bj o;clear y o;go_wp2_with fail
   refine du J ?_;rintro w1 rfl;have G:decide (x=tb)=true:=gG u.out
   simp only[G];clear G;go_wp2_with fail
   go_ret;exact⟨by simp[HJ.out],rfl⟩
  have o:x≠tb:=by
   intro e;subst e;have a2:=ss xs x j hx;omega
  have u:=bj o;clear o;go_wp2_with fail
  refine du J ?_;rintro w1 rfl;have G:decide (x=tb)=false:=gG u.out
  simp only[G];clear G;go_wp2_with fail
  go_roundw
  case rel=>exact⟨j+1,iA,ag,trivial⟩
  case measure=>simp[intOf];omega
def N4(w wr:aa)(g c ix j:Nat)(xs:List Nat):Prop:=
 jF wr g 155 c/\w.grownBy wr (some g)/\(∀p x,p+1<j->(xs.eraseIdx ix)[p]? = some x->wr.cell? ⟨g,p,none⟩=some (P0 x))/\(∀p x,j<=p->xs[p]? = some x->wr.cell? ⟨g,p,none⟩=some (P0 x))
theorem Ly(g c n tb xb:Nat)(xs:List Nat)(w:aa)(a1:w.ownsRow 0 155 1 (dA g n c) n (xs.map P0))(aL:n<=1000000000)(aD:xs.Nodup)(hx:w.cell? (ay xb 0)=some (P0 tb))(lx:xb<w.heap.size)(ng:xb≠g)(hT:jF w tb 160 7)(hX:∀x,x∈xs->jF w x 160 7)(hm:tb∈xs): dD 209 #[dA g n c,Fv 210 #[P0 xb]] w (dA g (n-1) c) λw'=>w'.ownsRow 0 155 1 (dA g (n-1) c) (n-1) ((xs.erase tb).map P0)/\w.grownBy w' (some g):=by
 obtain⟨hb,hc,a4,hl,hB,G⟩:=gZ a1;have W:xs.length=n:=gG hl
 have a0:∀j x,xs[j]? = some x->dS w g j=some (P0 x):=λj x h=>G j (P0 x) (by simp[h]);have aS:xs.idxOf tb<n:=by rw[<-W];exact List.idxOf_lt_length_of_mem hm
 have aM:=bj (Lr g c n tb xb xs w W.symm aL a0 hx hT hX hm);have a8:tb≠g:=by
  rintro rfl;obtain⟨c1,Z,_⟩:=hT;obtain⟨c2,o,_⟩:=hB;rw[Z]at o;injection o with o;injection o with _ o _;exact dp o ek
 have aC:∀x,x∈xs->x≠g:=λx Y=>by
  rintro rfl;obtain⟨c1,Z,_⟩:=hX x Y;obtain⟨c2,o,_⟩:=hB;grind
 have aH:Hid (∀wr,w.grownBy wr (some g)->∀x,x∈xs->dD 210 #[P0 x,P0 xb] wr (.bool (decide (x=tb))) λw'=>w'=wr):=λwr a2 x Y=>by
  refine Bg x tb xb wr ?_ ?_ ?_
  .simp only[World.cell?]at hx ⊢;rw[a2.block xb lx eR];exact hx
  .obtain⟨c1,Z,o⟩:=hT;exact⟨c1,(a2.block tb (ch Z) eR).trans Z,o⟩
  obtain⟨c1,Z,o⟩:=hX x Y;exact⟨c1,(a2.block x (ch Z) eR).trans Z,o⟩
 have a6:∀j,xs.idxOf tb<j->∀x,xs[j]? = some x->x≠tb:=λj hj x aN e=>by
  grind
 obtain⟨i0,hi,a9,aG,aE⟩:=info_parts Tryz.oF;have hv:∀w,(zeroValue 155).run prog w=.ok (.pointer none) w:=by intro w;simp[zeroValue,typeInfo,hi,a9]
 have a7:Hid (∀(ty:TypeId) (w1:aa) (c':Nat),jF w1 g 155 c->(Builtin.clear_ #[136] ty #[.slice (some (ay g (n-1))) 1 c']).run prog w1=.ok (.tuple #[]) (w1.setCell (ay g (n-1)) (.pointer none))):=by
  intro ty w1 c' aA;refine Go.Lib.run_clear_slice (P:=prog) w1 136 155 ty (.pointer none) underlying136 hv rfl rfl g (n-1) 1 c' ag ?_ ?_
  .intro j hj;obtain⟨⟨v,h⟩,_⟩:=aA.cell (n-1+j) ag;grind
  intro j hj;exact(aA.cell (n-1+j) ag).2
 have KD:Hid (N4 w w g c (xs.idxOf tb) (xs.idxOf tb+1) xs):=⟨hB,aw _ _,λp x hp hx=>by
   grind,λp x _ hx=>a0 p x hx⟩
 have aT:(n:Int)<=(c:Int):=ag
 change Hid _ at a6 a4;have u:=bj W;have a3:=bj (sy xs tb);clear a1 hl G a0 hx hT hX hm hB a8 aC aD hv hi a9 aG aE i0;generalize xs.idxOf tb=ix at *;delta dD;go_in;go_wp2_with fail
 refine du aM ?_;rintro w1 rfl;go_wp2_with fail
 have a5:((ix:Int) == -1)=false:=kr dX
 try rw[a5]
 try simp only[a5]
 clear a5;go_loopw [5,6] (λi j wr=>∃J:Nat,i=aj (J:Nat)/\j=aj ((J:Int)+1)/\ix<=J/\J+1<=n/\Hid (N4 w1 wr g c ix (J+1) xs)) (λ_ j _=>n-(intOf j).toNat)
 case atStart=>exact⟨ix,rfl,iA,ag,ag,KD⟩
 case round=>
  obtain⟨J,rfl,rfl,aV,aR,rD⟩:=hrel;obtain⟨dB,dG,d1,d2⟩:=rD.out;by_cases aQ:J+1<n
  .have aB:(J:Int)+1<(n:Int):=ag
   obtain⟨x,hx⟩:∃x,xs[J+1]? = some x:=⟨_,bz ag⟩;have cj:=d2 (J+1) x (bq _) hx;have H:=aH.out wr dG x (eh hx);have hd:decide (x=tb)=false:=by simpa using a6.out (J+1) ag x hx
   rw[hd]at H;change Hid _ at H hx;obtain⟨⟨y,cJ⟩,zJ⟩:=dB.cell J ag;have lg:=dB.lt;clear hd dB dG d1 d2;go_wp2_with fail
   refine du H ?_;rintro w2 rfl;have aP:Hid (N4 w1 (w2.setCell (ay g J) (P0 x)) g c ix (J+2) xs):=by
    obtain⟨dB,dG,d1,d2⟩:=rD.out;refine⟨dB.set g J _,bu dG (af rfl) _,λp z hp hz=>?_,λp z hp hz=>?_⟩
    .by_cases aK:p=J
     .subst aK;rw[List.getElem?_eraseIdx_of_ge ag]at hz;rw[hx.out]at hz;injection hz with hz;subst hz;exact World.cell?_setCell_same _ _ _ cJ
     rw[dH _ _ _ _ AA];exact d1 p z ag hz
    rw[dH _ _ _ _ AA];exact d2 p z ag hz
   go_wp2
   go_roundw
   case rel=>exact⟨J+1,iA,iA,ag,ag,aP⟩
   case measure=>simp[intOf];omega
  have aB:¬(J:Int)+1<(n:Int):=ag
  obtain rfl:n=J+1:=by omega
  have cl:∀(ty:TypeId) (c':Nat),(Builtin.clear_ #[136] ty #[.slice (some (ay g J)) 1 c']).run prog wr=.ok (.tuple #[]) (wr.setCell (ay g J) (.pointer none)):=λty c'=>a7.out ty wr c' dB;clear dB dG d1 d2;go_wp2
  go_ret;obtain⟨dB,dG,d1,d2⟩:=rD.out;refine⟨rfl,nD (dk _) ag a4.out ?_ (dB.set g J _) (λj y hy=>?_),bu dG (af rfl) _⟩
  .rw[ef,<-a3.out,List.length_eraseIdx,bf (kr u.out),u.out];omega
  have hj:j<J:=by
   have:=(cf.1 hy).1;rw[ef,<-a3.out,List.length_eraseIdx,bf (kr u.out),u.out]at this;omega
  rw[eP]at hy;obtain⟨z,hz,rfl⟩:=Option.map_eq_some_iff.1 hy;rw[dH _ _ _ _ AA];exact d1 j z ag (eV a3.out hz)
def fst(p:Nat->Bool)(xs:List Nat):Int:=if xs.findIdx p<xs.length then(xs.findIdx p:Nat) else -1
theorem DU(g c n xb:Nat)(ad:Option Addr)(p:Nat->Bool)(xs:List Nat)(w:aa)(hn:n=xs.length)(a5:n<=1000000000)(a0:∀j x,xs[j]? = some x->ad=some (ay g 0)/\w.cell? (ay g j)=some (P0 x))(lg:xs≠[]->g<w.heap.size)(H:∀w1,w.grownBy w1 none->∀x,x∈xs->dD 204 #[P0 x,P0 xb] w1 (.bool (p x)) λw'=>w1.grownBy w' none): dD 205 #[.slice ad n c,Fv 204 #[P0 xb]] w (aj (fst p xs)) λw'=>w.grownBy w' none:=by
 have HC:=bj a0;have HH:=bj H;have HN:=bj hn;have HG:=bj lg;have a3:xs.findIdx p<=xs.length:=List.findIdx_le_length;have HL:=bj a3;clear a0 H hn a3 lg;delta dD;go_in;go_wp2_with fail
 go_loopw [8] (λi wr=>∃j:Nat,i=aj j/\j<=xs.findIdx p/\Hid (w.grownBy wr none)) (λi _=>xs.length-(intOf i).toNat)
 case atStart=>grind[aw]
 case round=>
  obtain⟨j,rfl,hj,rG⟩:=hrel;by_cases a6:j<n
  .obtain⟨x,hx⟩:∃x,xs[j]? = some x:=⟨_,bz (gp HN.out)⟩;obtain⟨rfl,a2⟩:=HC.out j x hx;have y:=eh hx;have cj:wr.cell? (ay g j)=some (P0 x):=(bd rG.out (a:=ay g j) (HG.out eR)).1.trans a2;have a1:=HH.out wr rG.out x y;obtain⟨Y,G⟩:=cf.1 hx;have J:=bj a1;clear a1 a2 y;by_cases Z:j=xs.findIdx p
   .have u:p x=true:=by
     subst Z;rw[<-G];exact List.findIdx_getElem (w:=Y)
    have HJ:=bj Z;rw[u]at J;clear Z u G Y;go_wp2_with fail
    refine du J λw1 o=>?_;have W:=bj (ar rG.out o);clear o;go_wp2_with fail
    go_ret;refine⟨?_,W.out⟩;have h1:=HJ.out;have h2:=HN.out;unfold fst;simp_all
   have u:p x=false:=by
    rw[<-G];have:=List.not_of_lt_findIdx (p:=p) (xs:=xs) (i:=j) ag;simpa using this
   rw[u]at J;clear u G Y;go_wp2_with fail
   refine du J λw1 o=>?_;have W:=bj (ar rG.out o);clear o;go_wp2_with fail
   go_roundw
   case rel=>exact⟨j+1,iA,ag,W⟩
   case measure=>simp[intOf];have:=HN.out;omega
  have a4:¬(j:Int)<(n:Int):=ag
  go_wp2_with fail
  go_ret;refine⟨?_,rG.out⟩;have h2:=HN.out;unfold fst;rw[eD];rfl
theorem DT(g c n xb:Nat)(ad:Option Addr)(p:Nat->Bool)(xs:List Nat)(w:aa)(hn:n=xs.length)(a5:n<=1000000000)(a0:∀j x,xs[j]? = some x->ad=some (ay g 0)/\w.cell? (ay g j)=some (P0 x))(lg:xs≠[]->g<w.heap.size)(H:∀w1,w.grownBy w1 none->∀x,x∈xs->dD 206 #[P0 x,P0 xb] w1 (.bool (p x)) λw'=>w1.grownBy w' none): dD 205 #[.slice ad n c,Fv 206 #[P0 xb]] w (aj (fst p xs)) λw'=>w.grownBy w' none:=by
 have HC:=bj a0;have HH:=bj H;have HN:=bj hn;have HG:=bj lg;have a3:xs.findIdx p<=xs.length:=List.findIdx_le_length;have HL:=bj a3;clear a0 H hn a3 lg;delta dD;go_in;go_wp2_with fail
 go_loopw [8] (λi wr=>∃j:Nat,i=aj j/\j<=xs.findIdx p/\Hid (w.grownBy wr none)) (λi _=>xs.length-(intOf i).toNat)
 case atStart=>grind[aw]
 case round=>
  obtain⟨j,rfl,hj,rG⟩:=hrel;by_cases a6:j<n
  .obtain⟨x,hx⟩:∃x,xs[j]? = some x:=⟨_,bz (gp HN.out)⟩;obtain⟨rfl,a2⟩:=HC.out j x hx;have y:=eh hx;have cj:wr.cell? (ay g j)=some (P0 x):=(bd rG.out (a:=ay g j) (HG.out eR)).1.trans a2;have a1:=HH.out wr rG.out x y;obtain⟨Y,G⟩:=cf.1 hx;have J:=bj a1;clear a1 a2 y;by_cases Z:j=xs.findIdx p
   .have u:p x=true:=by
     subst Z;rw[<-G];exact List.findIdx_getElem (w:=Y)
    have HJ:=bj Z;rw[u]at J;clear Z u G Y;go_wp2_with fail
    refine du J λw1 o=>?_;have W:=bj (ar rG.out o);clear o;go_wp2_with fail
    go_ret;refine⟨?_,W.out⟩;have h1:=HJ.out;have h2:=HN.out;unfold fst;simp_all
   have u:p x=false:=by
    rw[<-G];have:=List.not_of_lt_findIdx (p:=p) (xs:=xs) (i:=j) ag;simpa using this
   rw[u]at J;clear u G Y;go_wp2_with fail
   refine du J λw1 o=>?_;have W:=bj (ar rG.out o);clear o;go_wp2_with fail
   go_roundw
   case rel=>exact⟨j+1,iA,ag,W⟩
   case measure=>simp[intOf];have:=HN.out;omega
  have a4:¬(j:Int)<(n:Int):=ag
  go_wp2_with fail
  go_ret;refine⟨?_,rG.out⟩;have h2:=HN.out;unfold fst;rw[eD];rfl
theorem Ig(x i:Nat)(a b:Int)(w:aa)(h:w.cell? (ay i 0)=some (aj b))(hx:w.cell? (ay x 0)=some (aj a)): dD 206 #[P0 x,P0 i] w (.bool (a == b)) λw'=>w.grownBy w' none:=by
 delta dD;go_in;go_wp2
 go_quiet (fail)
 go_wp2
 go_ret;simp[df,aw]
theorem GW(x i tb:Nat)(a b:Int)(w:aa)(h:w.cell? (ay i 0)=some (P0 tb))(hx:w.cell? (ay x 5)=some (aj a))(ht:w.cell? (ay tb 5)=some (aj b)): dD 204 #[P0 x,P0 i] w (.bool (decide (b<a))) λw'=>w.grownBy w' none:=by
 delta dD;go_in;go_wp2
 go_quiet (fail)
 go_wp2
 go_ret;simp[df,aw]
def sD(xs:List Nat)(nm:Nat->Int)(z:Int):Value:=
 match xs.find? (λx=>nm x == z) with
 | some x=>.tuple #[P0 x,.bool true]
 | none=>.tuple #[.pointer none,.bool false]
theorem Kg(eb g c n:Nat)(ad:Option Addr)(z:Int)(i:Nat->Int)(xs:List Nat)(w:aa)(he:w.cell? (ay eb 29)=some (.slice ad n c))(le:eb<w.heap.size)(hn:n=xs.length)(a0:n<=1000000000)(G:∀j x,xs[j]? = some x->ad=some (ay g 0)/\w.cell? (ay g j)=some (P0 x))(lg:xs≠[]->g<w.heap.size)(H:∀x,x∈xs->w.cell? (ay x 0)=some (aj (i x))/\x<w.heap.size): dD 170 #[P0 eb,aj z] w (sD xs i z) λw'=>w.grownBy w' none:=by
 have HX:Hid (dD 205 #[.slice ad n c,Fv 206 #[P0 w.heap.size]] (w.alloc (.cells #[aj z] 2)) (aj (fst (λx=>i x == z) xs)) λw'=>(w.alloc (.cells #[aj z] 2)).grownBy w' none):=by
  have hA:=ak w (.cells #[aj z] 2) none;refine DT g c n w.heap.size ad (λx=>i x == z) xs _ hn a0 (λj x y=>⟨(G j x y).1,?_⟩) (λh=>by have:=lg h;simp;omega) (λw1 hg x W=>?_)
  .have o:=eh y;exact(bd hA (a:=ay g j) (lg eR)).1.trans (G j x y).2
  refine Ig x w.heap.size (i x) z w1 ?_ ?_
  .have:=da hg (bl w (.cells #[aj z] 2)) eR;simp[World.cell?,this]
  exact(bd (ar hA hg) (a:=ay x 0) (H x W).2).1.trans (H x W).1
 change Hid _ at G hn lg;clear H;delta dD;go_in;go_wp2_with fail
 refine du HX λw1 Y=>?_;have hG:=ar (ak w (.cells #[aj z] 2) none) Y;have a1:=(bd hG (a:=ay eb 29) le).1.trans he;have KG:=bj hG;by_cases J:xs.findIdx (λx=>i x == z)<xs.length
 .obtain⟨x,y⟩:∃x,xs[xs.findIdx (λx=>i x == z)]? = some x:=⟨_,bz J⟩;obtain⟨rfl,Z⟩:=G _ x y;have o:=eh y;have u:fst (λx=>i x == z) xs=((xs.findIdx (λx=>i x == z):Nat):Int):=by unfold fst;rw[bf J]
  have hv:sD xs i z=.tuple #[P0 x,.bool true]:=by
   have:xs.find? (λx=>i x == z)=some x:=by
    rw[List.find?_eq_some_iff_getElem];obtain⟨h1,h2⟩:=cf.1 y;refine⟨eR,_,h1,h2,λj hj=>?_⟩;have:=List.not_of_lt_findIdx hj;simpa using this
   unfold sD;rw[this]
  have HV:=bj hv;rw[u];generalize xs.findIdx (λx=>i x == z)=ix at *;have cj:dS w1 g ix=some (P0 x):=(bd KG (a:=ay g ix) (lg eR)).1.trans Z;have a2:(ix:Int)<n:=gp hn.out
  go_wp2
  go_ret2
  simp_all
 have u:fst (λx=>i x == z) xs=-1:=by unfold fst;rw[au J]
 have hv:sD xs i z=.tuple #[.pointer none,.bool false]:=by
  have:xs.find? (λx=>i x == z)=none:=by
   rw[List.find?_eq_none];intro x y hp;exact J (List.findIdx_lt_length_of_exists ⟨x,y,hp⟩)
  unfold sD;rw[this]
 have HV:=bj hv;rw[u];go_wp2
 go_ret2
 simp_all
theorem G4(eb m c:Nat)(ad:Option Addr)(z:Int)(w:aa)(h:w.cell? ⟨eb,30,none⟩=some (.slice ad m c)): Calls prog 169 #[P0 eb,.int .i64 z] w λe w'=>e=.returned (.bool (decide (1<=z/\z<=(m:Int))))/\w.grownBy w' none:=by
 by_cases o:1<=z
 .by_cases u:z<=(m:Int)
  .have i:decide (1<=z/\z<=(m:Int))=true:=by simp[o,u]
   rw[i];go_in;go_wp2_with fail
   go_ret;exact⟨eB,aw _ _⟩
  have i:decide (1<=z/\z<=(m:Int))=false:=by simp[o,u]
  rw[i];go_in;go_wp2_with fail
  go_ret;exact⟨eB,aw _ _⟩
 have i:decide (1<=z/\z<=(m:Int))=false:=by simp[o]
 rw[i];go_in;go_wp2_with fail
 go_ret;exact⟨rfl,aw _ _⟩
def py(y:Option Nat):Value:=
 match y with
 | some y=>.tuple #[P0 y,.bool true]
 | none=>.tuple #[.pointer none,.bool false]
theorem Hv(op a b c fb tb eb:Nat)(z:Int)(p:Bool)(y:Option Nat)(R:aa->Prop)(w:aa)(H1:∀w1,w.grownBy w1 none->dD 169 #[P0 eb,aj z] w1 (.bool p) λw'=>w1.grownBy w' none)(H2:∀w1,w.grownBy w1 none->dD 170 #[P0 eb,aj z] w1 (py y) λw'=>w1.grownBy w' none)(H3:∀w1 x,w.grownBy w1 none->y=some x->eL 172 #[P0 eb,P0 x] w1 λw'=>R w')(H4:∀w1,w.grownBy w1 none->p=false\/y=none->R w1): dD 114 #[ed op a b c fb tb eb,aj z] w (aj (if p=true then 0 else 6)) λw'=>R w':=by
 have K1:=bj H1;have K2:=bj H2;have K3:=bj H3;have K4:=bj H4;delta dD;go_in;go_wp2_with fail
 have Y:=bj (iN w op a b c fb tb eb);have J:=bj (ak w (.cells #[dy op,dy a,dy b,dy c,P0 fb,P0 tb,P0 eb] 186) none);generalize hW:w.alloc (.cells #[dy op,dy a,dy b,dy c,P0 fb,P0 tb,P0 eb] 186)=w1 at *;refine du (K1 w1 J) λw2 u=>?_;have G:=bj (ar J u);have i:=da u Y im;obtain⟨x0,x1,x2,x3,x4,x5,x6⟩:=eZ i;have Z:=bj i
 cases p with
 | false=>
  go_wp2
  go_ret;exact⟨rfl,K4 _ G eB⟩
 | true=>
  go_wp2_with fail
  refine du (K2 w2 G) λw3 o=>?_;have W:=bj (ar G o);have H:=da o Z im;obtain⟨y0,y1,y2,y3,y4,y5,y6⟩:=eZ H
  cases y with
  | none=>
   simp only[py];go_wp2
   go_ret;exact⟨rfl,K4 _ W eB⟩
  | some x=>
   simp only[py];go_wp2_with fail
   refine du (K3 w3 x W rfl) λw4 hR=>?_;have HR:=bj hR;go_wp2
   go_ret;exact⟨rfl,HR⟩
def MP(p:Bool)(z:Int)(t:Nat):Prop:=p=true/\¬z=(t:Int)
def IK(p:Bool)(z t:Int):Int:=if p=true/\z≠t then 0 else 6
def Ke(z t:Int):IK false z t=6:=by simp[IK,au]
theorem Ie(p:Bool){z t:Int}(h:z=t):IK p z t=6:=by simp_all[IK,au]
theorem BD{z t:Int}(h:¬z=t):IK true z t=0:=by simp_all[IK,bf]
theorem Kc(op a b c fb tb eb t m co ob j:Nat)(z:Int)(p:Bool)(y:Option Nat)(v:B.V)(R:aa->Prop)(w:aa)(H1:∀w1,w.grownBy w1 none->dD 169 #[P0 eb,aj z] w1 (.bool p) λw'=>w1.grownBy w' none)(H2:∀w1,w.grownBy w1 none->dD 170 #[P0 eb,aj z] w1 (py y) λw'=>w1.grownBy w' none)(H3:∀w1 x,w.grownBy w1 none->y=some x->MP p z t->eL 171 #[ed op a b c fb tb eb,Pt x 6] w1 λw'=>R w')(H5:∀w1,w.grownBy w1 none->y=none->MP p z t->eL 149 #[ed op a b c fb tb eb,vA v] w1 λw'=>R w')(H4:∀w1,w.grownBy w1 none->p=false\/z=(t:Int)->R w1)(ht:w.cell? (ay tb 0)=some (aj t))(lt:tb<w.heap.size)(le:eb<w.heap.size)(hy:∀x,y=some x->x<w.heap.size)(hz:p=true->z=(j:Int)+1/\j<m)(hm:m<=1000000000)(he:w.cell? (ay eb 30)=some (dA ob m co))(lo:ob<w.heap.size)(hv:p=true->w.cell? (ay ob (j*2))=some (aj v.1)/\w.cell? (ay ob (j*2+1))=some (aj v.2)): dD 113 #[ed op a b c fb tb eb,aj z] w (aj (IK p z (t:Int))) λw'=>R w':=by
 change Hid _ at H1 H2 H3 H4 H5 hy hz;have KC:=bj (bh ht (bh he hv));clear ht he hv;obtain⟨v1,v2⟩:=v;delta dD;go_in;go_wp2_with fail
 have a1:=bj (iN w op a b c fb tb eb);have a0:=bj (ak w (.cells #[dy op,dy a,dy b,dy c,P0 fb,P0 tb,P0 eb] 186) none);generalize hW:w.alloc (.cells #[dy op,dy a,dy b,dy c,P0 fb,P0 tb,P0 eb] 186)=w1 at *;clear hW;refine du (H1 w1 a0) λw2 Y=>?_;have u:=bj (ar a0 Y);have H:=da Y a1 im;obtain⟨x0,x1,x2,x3,x4,x5,x6⟩:=eZ H;have a2:=bj H;have t2:=(bd u (a:=ay tb 0) lt).1.trans KC.1;clear Y H
 cases p with
 | false=>
  go_wp2
  go_ret;exact⟨jx Ke,H4 _ u eB⟩
 | true=>
  by_cases G:z=(t:Int)
  .have hb:(z == (t:Int))=true:=gG G
   change Hid _ at G;go_wp2
   go_ret;exact⟨by rw[Ie _ G];rfl,H4 _ u (by first|exact ah G|simp[G.out])⟩
  have hb:(z == (t:Int))=false:=gG G
  have G:=bj G;clear G;go_wp2_with fail
  refine du (H2 w2 u) λZ J=>?_;have o:=bj (ar u J);have W:=da J a2 im;obtain⟨y0,y1,y2,y3,y4,y5,y6⟩:=eZ W;clear J W x0 x1 x2 x3 x4 x5 x6 hb t2
  cases y with
  | some x=>
   simp only[py];go_wp2
   go_region_with (go_at_call 171;refine du (H3 Z.drew x (bo o) rfl ⟨rfl,G⟩) λw4 hR=>?_;have HR:=bj hR;clear hR)
   all_goals
    go_wp2
    go_ret;exact⟨by rw[BD G];rfl,HR⟩
  | none=>
   simp only[py];obtain⟨rfl,a6⟩:=hz eB;obtain⟨o1,o2⟩:=KC.2.2 eB;have e3:=(bd o (a:=ay eb 30) le).1.trans KC.2.1;have p1:=(bd o (a:=ay ob (j*2)) lo).1.trans o1;have p2:=(bd o (a:=ay ob (j*2+1)) lo).1.trans o2;have a8:(j:Int)<m:=ag
   have a5:(0:Int)<=j:=ag
   have a7:IntKind.i64.wrap (j:Int)=j:=jG _ ⟨ag,ag⟩;clear o1 o2;go_wp2
   go_region_with (go_at_call 149;refine du (H5 Z.drew (bo o) eB ⟨rfl,G⟩) λw4 hR=>?_;have HR:=bj hR;clear hR)
   all_goals
    go_wp2
    go_ret;exact⟨by rw[BD G];rfl,HR⟩
theorem vL(eb:Nat)(z:Int)(w:aa)(h:z<0\/4<=z):Calls prog 130 #[P0 eb,.int .i64 z] w λe w'=>e=.returned (.tuple #[.pointer none,.bool false])/\w'=w:=by
 rcases h with h|h
 .go_in;go_wp2_with fail
  go_ret2
  exact⟨rfl,rfl⟩
 have i:¬z<0:=ag;go_in;go_wp2_with fail
 go_ret2
 exact⟨rfl,rfl⟩
theorem qm(eb k:Nat)(w:aa)(h:k<4):dD 130 #[P0 eb,aj k] w (.tuple #[Pt eb (34+k*2),.bool true]) λw'=>w'=w:=by
 have o:¬(k:Int)<0:=ag;have i:(k:Int)<4:=ag;delta dD;go_in;go_wp2
 go_ret2
 exact⟨rfl,rfl⟩
def C3(a:Addr)(m n:Nat):(a.add m).add n=a.add (m+n):=by
 unfold Addr.add;by_cases h:m=0
 .subst h;simp
 by_cases e:n=0
 .subst e;simp
 rw[au e,au h,eD];simp[Nat.add_assoc]
theorem D8(eb:Nat)(ad:Option Addr)(n c:Nat)(xs:List (Int×Nat))(I:List (Int×Nat)->aa->Prop)(w:aa)(hI:I xs w)(hn:n=xs.length)(a4:n<=1000000000)(ha:ad=none->xs=[])(HC:∀ys w1,I ys w1->∀a,ad=some a->∀j x,xs[j]? = some x->w1.cell? (a.add (j*2))=some (aj x.1)/\w1.cell? (a.add (j*2+1))=some (dy x.2))(HG:∀ys w1 w2,I ys w1->w1.grownBy w2 none->I ys w2)(HE:∀ys w1,I ys w1->eb<w1.heap.size)(HS:∀x r w1,I (x :: r) w1->0<=x.1/\x.1<4->eL 131 #[Pt eb (34+x.1.toNat*2),dy x.2] w1 λw'=>I r w')(HN:∀x r w1,I (x :: r) w1->¬(0<=x.1/\x.1<4)->I r w1): eL 65 #[P0 eb,.slice ad n c] w λw'=>I [] w':=by
 change Hid _ at hI HC HG HE HS HN ha hn;delta eL;go_in;go_wp2
 go_loopw [10] (λi wr=>∃j:Nat,i=aj j/\j<=n/\Hid (I (xs.drop j) wr)) (λi _=>n-(intOf i).toNat)
 case atStart=>exact⟨0,rfl,ag,by show I (xs.drop 0) w;rw[List.drop_zero];exact hI⟩
 case round=>
  obtain⟨j,rfl,hj,u⟩:=hrel;by_cases a5:j<n
  .obtain⟨x,H⟩:∃x,xs[j]? = some x:=⟨_,bz (gp hn.out)⟩;obtain⟨a,rfl⟩:∃a,ad=some a:=by
    cases ad with
    | none=>rw[ha rfl]at H;simp at H
    | some a=>exact⟨a,rfl⟩
   obtain⟨c0,c1⟩:=HC _ _ u a rfl j x H;obtain⟨y,J⟩:=cf.1 H;have Z:xs.drop j=x :: xs.drop (j+1):=by rw[<-J];exact List.drop_eq_getElem_cons y
   rw[Z]at u;have W:(j:Int)<n:=ag
   obtain⟨z,b⟩:=x;simp only at c0 c1;rw[<-C3]at c1;have G:dS wr ((a.add (j*2)).block) ((a.add (j*2)).off+1)=some (dy b):=c1;clear c1;clear H J Z y;by_cases hz:0<=z/\z<4
   .obtain⟨k,rfl⟩:∃k:Nat,z=(k:Int):=⟨z.toNat,ag⟩;have hk:k<4:=ag
    have a2:Hid (∀w1,wr.grownBy w1 none->eL 131 #[Pt eb (34+k*2),dy b] w1 λw'=>I (xs.drop (j+1)) w'):=λw1 hg=>by
     have h1:=HS _ _ w1 (HG _ _ _ u hg) hz;simp only[js]at h1;exact h1
    clear hz u;go_wp2_with fail
    refine du (qm eb k _ hk) ?_;rintro w2 rfl;go_wp2_with fail
    refine du (a2 _ (ak _ _ _)) λw3 a1=>?_;change Hid _ at a1;clear a2 c0 G;go_wp2
    go_roundw
    case rel=>exact⟨j+1,eB,ag,a1⟩
    case measure=>simp[intOf];omega
   have Y:Hid (∀w1,wr.grownBy w1 none->I (xs.drop (j+1)) w1):=λw1 hg=>HN _ _ w1 (HG _ _ _ u hg) hz;have a3:z<0\/4<=z:=ag
   clear hz u;go_wp2_with fail
   refine du (vL eb z _ a3) ?_;rintro w2 rfl;have a1:Hid (I (xs.drop (j+1)) (wr.alloc (.cells #[aj z,dy b] 169))):=Y _ (ak _ _ _);clear Y c0 G;go_wp2
   go_roundw
   case rel=>exact⟨j+1,eB,ag,a1⟩
   case measure=>simp[intOf];omega
  have W:¬((j:Int)<n):=ag;have a0:j=xs.length:=gp hn.out;have a1:Hid (I [] wr):=by
   have:=u.out;rw[a0,List.drop_length]at this;exact this
  clear u a0;go_wp2
  go_end0;exact⟨rfl,a1⟩
