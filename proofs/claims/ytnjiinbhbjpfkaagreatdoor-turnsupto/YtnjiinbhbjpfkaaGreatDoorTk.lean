import Derived.Test.YtnjiinbhbjpfkaaGreatDoorTj
set_option maxRecDepth 100000
set_option maxHeartbeats 0
set_option linter.all false
namespace Go.Proofs.YtnjiinbhbjpfkaaGreatDoor
open Go.RowKit Go.Proofs.Tryz
namespace F
variable {g:eJ}{p:dL}{s:Pl}{t:Nat}{u:Int}{w:aa}
theorem II{w1 w':aa}{x y gb W n:Nat}{l:List Nat}(h1:Tr p s g w (s.dz t) g w1)(hl:fN s x y)(ht:fm s t)(G:¬(x=5/\y=t))(hn:l.length=n+1)(u:Ln w' (pL p g x y) (ri x y) (Af x) (De x) (eC (Ey p (s.dz t) g x y) (ri x y) (dA gb (n+1) W)) (some (ay gb 0)) (n+1) W (l.map g.tb))(J:Full w' (g.tb t) 160 7 7 (eC (eC (gz p (s.dz t) g t) 2 (.bool false)) 3 (Pt (pL p g x y) (ri x y))))(Y:dM (λk=>k=pL p g x y\/k=g.tb t\/(Value.slice (g.ro x y).1 n (g.ro x y).2).ownBlock=some k) w1 w')(o:(Value.slice (g.ro x y).1 n (g.ro x y).2).ownBlock=some gb\/w1.heap.size<=gb): Tr p s g w (s.into x y t l) (g.at x y (some (ay gb 0),W)) w':=by
 have hn1:=gg s t;have i:=(gC hn1).2 hl;refine h1.trans (h1.r.line i ((ey hn1).2 ht) rfl (ah rfl) G ?_ ?_ ?_ ?_ ?_)
 .rw[hn];exact u.hE
 .rw[hn];exact u.row
 .refine J.congr (λj hj=>rY (v:=((s.dz t).T t).to x y) i rfl G _ ?_ ?_ ?_ ?_ ?_ ?_ ?_ j hj)<;>rfl
 .grind[dF,dM.mono]
 intro k H;have e:gb=k:=by injection H
 grind[dF]
theorem G7{x y k:Nat}(h:dZ p s g w)(hW:LW s)(Y:fN s x y)(ht:fm s t)(J:¬(x=5/\y=t))(a5:(s.T t).wh≠some (x,y))(W:k<=(s.q x y).length): eL 166 #[Pt (pL p g x y) (ri x y),aj k,P0 (g.tb t)] w λw'=>∃r,Tr p s g w (s.into x y t ((s.q x y).take k++t :: (s.q x y).drop k)) (g.at x y r) w':=by
 have a9:=hW.len Y;have hL:=h.ln Y ag;have hT:=h.tk ht;have hB:=hL.hE;have a2:Af x≠155:=by unfold Af;split<;>decide
 have nb:pL p g x y≠g.tb t:=by
  unfold pL;by_cases h5:x=5
  .rw[bf h5];exact λe=>J ⟨h5,h.mC (nG Y h5) ht e⟩
  rw[au h5];exact h.E.ne hT ek
 have hn1:=gg s t;have a1:=sm s a5;have Z:eL 133 #[P0 (g.tb t)] w λw1=>Ln w1 (pL p g x y) (ri x y) (Af x) (De x) (Ey p (s.dz t) g x y) (g.ro x y).1 (s.q x y).length (g.ro x y).2 ((s.q x y).map g.tb)/\Full w1 (g.tb t) 160 7 7 (gz p (s.dz t) g t)/\Tr p s g w (s.dz t) g w1:=by
  refine du (qL h hW ht) λw1 i=>?_;have a0:=i.r.ln ((gC hn1).2 Y) eR;rw[a1]at a0;exact⟨rfl,a0,i.r.tk ((ey hn1).2 ht),i⟩
 have a3:((s.q x y).take k++t :: (s.q x y).drop k).length=(s.q x y).length+1:=by
  rw[cw,List.length_cons,List.length_take,List.length_drop];omega
 by_cases a4:k<(s.q x y).length
 .refine du (G8 (pL p g x y) (ri x y) (g.ro x y).2 (s.q x y).length (g.tb t) (De x) k a4 (Af x) (g.ro x y).1 (Ey p (s.dz t) g x y) (gz p (s.dz t) g t) ((s.q x y).map g.tb) (λw1=>Tr p s g w (s.dz t) g w1) w nb (λk W=>⟨eU hL.row hB a2 k W,eU hL.row hT ek k W⟩) ag Z) ?_;rintro w' ⟨w1,i,gb,c',G,o,H,u⟩;refine⟨rfl,(some (ay gb 0),c'),II i Y ht J a3 ?_ o H u⟩;simp_all
 have a7:k=(s.q x y).length:=ag;subst a7;refine du (Bl (pL p g x y) (ri x y) (g.ro x y).2 (s.q x y).length (g.tb t) (De x) (Af x) (g.ro x y).1 (Ey p (s.dz t) g x y) (gz p (s.dz t) g t) ((s.q x y).map g.tb) (λw1=>Tr p s g w (s.dz t) g w1) w nb (λk W=>⟨eU hL.row hB a2 k W,eU hL.row hT ek k W⟩) ag Z) ?_;rintro w' ⟨w1,i,gb,c',G,o,H,u⟩;refine⟨rfl,(some (ay gb 0),c'),II i Y ht J a3 ?_ o H u⟩;grind
def qA.tl(v:qA)(u:Int):qA:={ v with iM:=u }
def Cn(s:Pl)(u:Int):Nat:=(s.q 3 0).findIdx (λa=>decide (u<(s.T a).iM))
def Pl.fK(s:Pl)(t:Nat)(u:Int):Pl:=s.dx t ((s.T t).tl u)
def Pl.iq(s:Pl)(t:Nat)(u:Int):Pl:=(s.fK t u).into 3 0 t ((s.q 3 0).take (Cn (s.fK t u) u)++t :: (s.q 3 0).drop (Cn (s.fK t u) u))
def jl(s:Pl)(t a:Nat):Int×Pl:=if((bw s t).R a).1=0 then(0,s.iq t (B.iJ s.clk ((bw s t).R a).2)) else(1,s)
theorem mF(s:Pl)(t:Nat)(u:Int)(a:Nat):((s.fK t u).T a).wh=(s.T a).wh/\((s.fK t u).T a).lf=(s.T a).lf/\((s.fK t u).T a).fr=(s.T a).fr/\((s.fK t u).T a).run=(s.T a).run:=by
 unfold Pl.fK;by_cases e:a=t
 .subst e;rw[di];exact⟨rfl,rfl,rfl,rfl⟩
 grind[dR]
def LW.fK(h:LW s)(t:Nat)(u:Int):LW (s.fK t u):=h.same rfl rfl (λa=>(mF s t u a).1)
theorem mR{q r:Nat->Bool}:∀(l:List Nat),(∀u,u∈l->q u=r u)->l.findIdx q=l.findIdx r
 | [],_=>rfl
 | u :: l,h=>by
  rw[List.findIdx_cons,List.findIdx_cons,h u eB,mR l (λv e=>h v (by simp[e]))]
theorem rm{f:Nat->Nat}{q:Nat->Bool}:∀(l:List Nat),(l.map f).findIdx q=l.findIdx (λa=>q (f a))
 | []=>rfl
 | u :: l=>by
  rw[List.map_cons,List.findIdx_cons,List.findIdx_cons,rm l]
theorem CM(q:Nat->Bool)(xs:List Nat):(if fst q xs<0 then(xs.length:Int) else fst q xs)=((xs.findIdx q:Nat):Int):=by
 unfold fst;grind
def Lg{w2:aa}(h:dZ p s g w)(ht:fm s t)(y:MU w w2 (g.tb t) u):Tr p s g w (s.fK t u) g w2:=by
 obtain⟨w1,i,rfl,_⟩:=y;refine Tr.ahead i ((h.kept i).flag ht rfl rfl ?_ (bp (S:=λk=>k=g.tb t) (dw _ _) (af rfl) _));refine(((h.kept i).tk ht).eC 5 _).congr (λj G=>?_);have e:∀a,sl (s.dx t ((s.T t).tl u)) g a t=sl s g a t:=λa=>by
  unfold sl;rw[jX (s:=s) (s':=s.dx t ((s.T t).tl u)) rfl rfl rfl rfl rfl (jx di) rfl]
 have o:=oU 6 j ag;rcases o with rfl|rfl|rfl|rfl|rfl|rfl|rfl
 .rfl
 .rw[eN _ _ _ _ ek];exact(e 12).symm
 .rw[eN _ _ _ _ ek];show _=Value.bool _;rw[di];rfl
 .rw[eN _ _ _ _ ek];show _=wF p g _;rw[di];rfl
 .rw[eN _ _ _ _ ek];show _=yL g t _;rw[di];rfl
 .rw[gO];show _=Value.int .i64 _;rw[di];rfl
 rw[eN _ _ _ _ ek];exact(e 5).symm
theorem Aa{i:Nat}(h:eH p (s.fK t u) g i):eH p s g i:=by
 obtain⟨x,y,z,e⟩:=h;refine⟨x,y,z,?_⟩;have H:gY (s.fK t u) x y z=gY s x y z:=nB rfl (by grind[mF]) (λ_ _=>by grind[mF]);by_cases o:gY s x y z=true
 .rw[hZ (H.trans o)]at e;rw[hZ o];by_cases G:fe x
  .rw[g9 G]at e ⊢;exact e
  have W:=rJ o;have J:x=0\/x=1\/x=11\/x=13\/x=14\/x=15\/x=16\/x=17\/x=18:=by unfold fe at G;omega
  rcases J with rfl|rfl|rfl|rfl|rfl|rfl|rfl|rfl|rfl<;>exact e
 grind[vw]
theorem Jg(x:Int)(h:dZ p s g w)(hW:LW s)(ht:fm s t)(a9:(s.T t).wh≠some (3,0))(c0:0<=s.clk)(c1:s.clk<=9223372036854775807): eL 168 #[P0 p.eb,P0 (g.tb t),aj x] w λw'=>∃r,Tr p s g w (s.iq t (B.iJ s.clk x)) (g.at 3 0 r) w':=by
 have hl:fN s 3 0:=ah (af ⟨rfl,rfl⟩);have aI:=hW.len hl;generalize hu:B.iJ s.clk x=u;have a7:fN (s.fK t u) 3 0:=ah (af ⟨rfl,rfl⟩)
 obtain⟨G,a4⟩:∃G:Nat->Bool,∀a,fm s a->G (g.tb a)=decide (u<((s.fK t u).T a).iM):=by
  classical
  refine⟨λb=>if J:∃a,fm s a/\g.tb a=b then decide (u<((s.fK t u).T J.choose).iM) else false,λa Z=>?_⟩;have J:∃a',fm s a'/\g.tb a'=g.tb a:=⟨a,Z,rfl⟩;show(if J:∃a',fm s a'/\g.tb a'=g.tb a then decide (u<((s.fK t u).T J.choose).iM) else false)=_;rw[dif_pos J,h.mC J.choose_spec.1 Z J.choose_spec.2]
 have aD:((s.q 3 0).map g.tb).findIdx G=Cn (s.fK t u) u:=by
  rw[rm];unfold Cn;exact mR _ (λa Z=>a4 a (hW.b 3 0 hl a Z).1)
 refine Jh p.eb (g.tb t) (s.q 3 0).length (g.ro 3 0).2 (g.ro 3 0).1 s.clk x (fst G ((s.q 3 0).map g.tb)) (gz p s g t) (λw'=>∃r,Tr p s g w (s.iq t u) (g.at 3 0 r) w') w (h.E.ne (h.tk ht) ek) (h.E.cell 28 ag) (h.E.cell 33 ag) (h.tk ht) c0 c1 ?_ ?_
 .intro w2 w3 W hg;rw[hu]at W;have h2:=(Lg h ht W).kept hg;obtain⟨H,Y⟩:∃H,s.q 3 0≠[]->(g.ro 3 0).1=some (ay H 0)/\H<w3.heap.size/\∀j x,((s.q 3 0).map g.tb)[j]? = some x->w3.cell? (ay H j)=some (P0 x):=by
   by_cases e:s.q 3 0=[]
   .simp_all
   have hr:=(h2.r.ln a7 (by show(s.q 3 0).length<=_;omega)).row;obtain⟨H,lc,he⟩:=ee hr (by exact λe'=>e (db.1 e'));rw[he]at hr;injection he with a1 _ _;exact⟨H,λ_=>⟨a1,(dP hr H rfl).2.1,λj x o=>(gZ hr).2.2.2.2.2 j (P0 x) (by rw[eP];show Option.map P0 ((s.q 3 0).map g.tb)[j]? = _;grind)⟩⟩
  have a0:∀{j:Nat} {x:Nat},((s.q 3 0).map g.tb)[j]? = some x->s.q 3 0≠[]:=λo e=>by grind
  refine DU H (g.ro 3 0).2 (s.q 3 0).length w.heap.size (g.ro 3 0).1 G ((s.q 3 0).map g.tb) w3 eR ag (λj x o=>⟨(Y (a0 o)).1,(Y (a0 o)).2.2 j x o⟩) (λe=>(Y (λe'=>e eR)).2.1) ?_;intro w4 a2 x o;obtain⟨a,Z,rfl⟩:=eK.1 o;have a5:=(hW.b 3 0 hl a Z).1;rw[a4 a a5];have h4:=h2.kept a2;obtain⟨_,_,_,i⟩:=W;have aF:w4.cell? (ay w.heap.size 0)=some (P0 (g.tb t)):=by
   rw[(bd (ar hg a2) (a:=ay w.heap.size 0) (ch i)).1];simp[World.cell?,i]
  have a6:w4.cell? (ay (g.tb t) 5)=some (aj u):=by
   rw[(h4.r.tk (t:=t) ht).cell 5 ag];show some (Value.int .i64 ((s.fK t u).T t).iM)=_;unfold Pl.fK;rw[di];rfl
  exact GW (g.tb a) w.heap.size (g.tb t) ((s.fK t u).T a).iM u w4 aF ((h4.r.tk (t:=a) a5).cell 5 ag) a6
 intro w2 w3 W hg;rw[hu]at W;have h2:=(Lg h ht W).kept hg;have aA:(if fst G ((s.q 3 0).map g.tb)<0 then((s.q 3 0).length:Int) else fst G ((s.q 3 0).map g.tb))=((Cn (s.fK t u) u:Nat):Int):=by
  have:=CM G ((s.q 3 0).map g.tb);rw[ef,aD]at this;exact this
 rw[aA];refine du (G7 (x:=3) (y:=0) h2.r (hW.fK t u) a7 ht ag (by grind[mF]) (by unfold Cn;grind)) ?_;rintro w' ⟨r,h3⟩;obtain⟨_,_,_,i⟩:=W;refine⟨rfl,⟨r,h2.trans h3⟩,?_⟩;refine(h3.other ((hg.block w.heap.size (ch i) eR).trans i) (λaC=>?_)).1;have:=h.lt (Aa aC);omega
theorem i17{op a b c:Nat}(h:dZ p s g w)(hP:PW p)(hI:In s t)(Y:a<p.rg (bw s t).f)(W:LW s)(u:(s.T t).wh=none)(c0:0<=s.clk)(c1:s.clk<=9223372036854775807): Calls prog 167 #[mD p s g t (op,a,b,c),P0 (p.ac+20),P0 (p.ac+21)] w λe w'=>∃why:Int,e=.returned (aj why)/\why=(jl s t a).1/\∃g',Tr p s g w (jl s t a).2 g' w':=by
 refine uc (u:=98) (H:=112) ag op a b c _ _ _ (p.ac+20) (p.ac+21) ((bw s t).R a) (λwhy w'=>why=(jl s t a).1/\∃g',Tr p s g w (jl s t a).2 g' w') w (hP.box h.fix (j:=20) ag rfl).1 (hP.box h.fix (j:=21) ag rfl).1 (In.a h hI op a b c _ _ Y) (λG w1 i=>?_) (λG w1 i=>?_)
 .have hS:jl s t a=(0,s.iq t (B.iJ s.clk ((bw s t).R a).2)):=by unfold jl;rw[bf G]
  refine(Gh op a b c (g.fb t (de s t)) (g.tb t) p.eb ((bw s t).R a).2 (λw'=>∃g',Tr p s g w (jl s t a).2 g' w') w1 (λw2 o=>?_)).mono ?_
  .refine du (Jg ((bw s t).R a).2 (h.kept (ar i o)) W hI.ht eR c0 c1) ?_;rintro w' ⟨r,y⟩;exact⟨rfl,g.at 3 0 r,by grind[ar,F.Tr.ahead]⟩
  grind
 unfold jl;rw[au G];exact⟨rfl,g,(Tr.refl h).kept i⟩
end F
namespace F
variable {p:dL}{s:Pl}{v:B.V}
def sH(p:dL)(s:Pl)(v:B.V):Prop:=(∃u i a,u∈s.lv/\i<(s.T u).fr.length/\a<p.rg (dq s u i).f/\(dq s u i).R a=v)\/v∈s.kp
theorem iw:v∈eG p s↔sH p s v:=by
 unfold eG xJ ua sv sH;simp only[dV,List.mem_flatMap,fI,B.mH];constructor
 .rintro(⟨u,o,i,hi,a,y,e⟩|h)
  .exact af ⟨u,i,a,o,hi,y,e⟩
  exact ah h
 rintro(⟨u,i,a,o,hi,y,e⟩|h)
 .exact af ⟨u,o,i,hi,a,y,e⟩
 exact ah h
def dW(p:dL)(s:Pl)(v:B.V):Prop:=B.pR (eG p s) s.M v
theorem dW.num(x:Int):dW p s (0,x):=af rfl
def dW.root(h:sH p s v):dW p s v:=B.pR.mem (iw.2 h)
structure FW(p:dL) (l:List jc):Prop where
 n1:l≠[]
 n2:l.length<=20
 f:∀i,i<l.length->(l.getD i n6).f<p.nf/\(l.getD i n6).nx<=p.len (l.getD i n6).f
 b:∀i,i+1<l.length->(l.getD (i+1) n6).bk.2.1<p.rg (l.getD i n6).f
structure fL(p:dL) (s:Pl) (X:Nat->Prop):Prop where
 lw:LW s
 ww:WW p s
 nd:s.lv.Nodup
 lt:∀u,u∈s.lv->fm s u
 ql:∀x y,fN s x y->∀t,t∈s.q x y->t∈s.lv
 lf:∀u,fm s u->(s.T u).lf≠none->∃x y,(s.T u).wh=some (x,y)/\(x=4\/x=5)
 rn:∀u,fm s u->(s.T u).run=true->(s.T u).wh=none/\u∈s.lv
 ol:s.out.length=s.nt
 ok:∀v,v∈s.out->v.1=0\/v∈s.kp
 kn:s.kp.Nodup
 kz:∀v,v∈s.kp->v.1≠0
 fw:∀u,u∈s.lv->X u->FW p (s.T u).fr
 hl:B.lS s.kd p.n (eG p s) s.M
 fc:∀k,1<=k->k<=p.n->s.kd.on k=true->s.ck k<=p.nf
 bt:∀k,(s.ft k).length<=1000/\∀x,x∈s.ft k->x<256
 c0:0<=s.clk
 c1:s.clk<=9223372036854775807
abbrev Ok(p:dL)(s:Pl):Prop:=fL p s (λ_=>True)
def fL.IZ{X Y:Nat->Prop}(h:fL p s X)(hX:∀u,u∈s.lv->Y u->X u):fL p s Y:={ h with fw:=λu e i=>h.fw u e (hX u e i) }
section
variable {p:dL}{s:Pl}{X:Nat → Prop} (h:fL p s X)
include h
theorem fL.AF{v:B.V}(e:dW p s v):B.sG s.kd.on p.n v:=B.pR.AF e h.hl
theorem fL.kl:s.kp.length<=p.n:=by
 have i:∀v,v∈s.kp->1<=v.1/\v.1<=p.n/\v.2=0:=λv i=>by
  rcases h.AF (dW.root (ah i)) with u|u
  .exact dp u (h.kz v i)
  exact⟨u.1,u.2.1,u.2.2.2⟩
 have hn:(s.kp.map (·.1)).Nodup:=by
  have y:∀l:List B.V,l.Nodup->(∀v,v∈l->v.2=0)->(l.map (·.1)).Nodup:=by
   intro l;induction l with
   | nil=>intro _ _;simp
   | cons a l H=>
    intro hn hz;rw[List.nodup_cons]at hn;rw[List.map_cons,List.nodup_cons];refine⟨λJ=>?_,H hn.2 (λv i=>hz v (by simp[i]))⟩;obtain⟨b,G,e⟩:=eK.1 J;have:b=a:=fV e ((hz b (by simp[G])).trans (hz a eB).symm);exact hn.1 (this▸G)
  exact y s.kp h.kn (λv h=>(i v h).2.2)
 have:=gK p.n _ hn (λt ht=>by
  obtain⟨v,o,rfl⟩:=eK.1 ht;exact⟨(i v o).1,(i v o).2.1⟩)
 rw[ef]at this;exact this
def fL.ll:s.lv.length<=s.nt:=gK s.nt _ h.nd (λt ht=>h.lt t ht)
end
theorem fL.same{p:dL}{s s':Pl}{X:Nat->Prop}(h:fL p s X)(W:s'.nt=s.nt)(H:s'.T=s.T)(G:s'.q=s.q)(u:s'.lv=s.lv)(J:s'.out=s.out)(e6:s'.kp=s.kp)(e7:s'.ft=s.ft)(y:s'.clk=s.clk)(o:s'.kd=s.kd)(e:s'.M=s.M)(i:s'.ck=s.ck):fL p s' X:=by
 obtain⟨a1,a2,a3,a4,a5,a6,a7,a8,a9,aA,aD,aB,a0⟩:=s;obtain⟨b1,b2,b3,b4,b5,b6,b7,b8,b9,Z,aC,aE,Y⟩:=s';simp only at W H G u J e6 e7 y o e i;subst W H G u J e6 e7 y o e i;exact⟨⟨h.lw.a,h.lw.b,h.lw.c,h.lw.d⟩,h.ww,h.nd,h.lt,h.ql,h.lf,h.rn,h.ol,h.ok,h.kn,h.kz,h.fw,h.hl,h.fc,h.bt,h.c0,h.c1⟩
end F
namespace F
variable {d i k t x y:Nat}{e:List B.V}{f:jc}{l:List jc}{p:dL}{s s':Pl}{u v:B.V}
def fL.roots{X:Nat->Prop}(h:fL p s X)(e:s'.kd=s.kd)(u:s'.M=s.M)(o:∀v,sH p s' v->dW p s v):B.lS s'.kd p.n (eG p s') s'.M:=by
 rw[e,u];exact B.CG h.hl (λv i=>o v (iw.1 i))
theorem FW.set{p:dL}{l:List jc}(h:FW p l){i:Nat}{f:jc}(hi:i<l.length)(H:f.f=(l.getD i n6).f)(J:f.bk=(l.getD i n6).bk)(hn:f.nx<=p.len f.f):FW p (l.set i f):=by
 have y:∀j,(l.set i f).getD j n6=if j=i then f else l.getD j n6:=λj=>by
  grind
 have o:∀j,((l.set i f).getD j n6).f=(l.getD j n6).f:=λj=>by
  grind
 have G:∀j,((l.set i f).getD j n6).bk=(l.getD j n6).bk:=λj=>by
  grind
 refine⟨λe=>h.n1 ?_,eV eA h.n2,λj u=>?_,λj u=>?_⟩
 .grind
 .rw[eA]at u;refine⟨by rw[o];exact(h.f j u).1,?_⟩;rw[o,y];by_cases e:j=i
  .grind
  rw[au e];exact(h.f j u).2
 grind[List.length_set,F.FW.b]
theorem fL.dJ{p:dL}{s:Pl}{X:Nat->Prop}(h:fL p s X){t i:Nat}{f:jc}(hi:i<(s.T t).fr.length)(W:f.f=(dq s t i).f)(hb:f.bk=(dq s t i).bk)(hn:f.nx<=p.len f.f)(hR:∀a,a<p.rg f.f->dW p s (f.R a)):fL p (s.dJ t i f) X:=by
 have hw:=λu=>gI s t i u f;have G:∀u j,(dq (s.dJ t i f) u j).f=(dq s u j).f:=λu j=>by
  grind[mh,lN]
 have J:∀u,(s.T u).fr≠[]->((s.dJ t i f).T u).fr≠[]:=λu h0 e=>h0 (by
  grind)
 refine⟨h.lw.dJ t i f,λu o x y hx H=>?_,h.nd,h.lt,h.ql,λu o hl=>?_,λu o hr=>?_,h.ol,h.ok,h.kn,h.kz,λu o hX=>?_,h.roots rfl rfl ?_,h.fc,h.bt,h.c0,h.c1⟩
 .rw[(hw u).1]at hx;obtain⟨k,k1,k2,k3⟩:=h.ww u o x y hx H;grind
 .rw[(hw u).2.1]at hl;rw[(hw u).1];exact h.lf u o hl
 .rw[(hw u).2.2.1]at hr;rw[(hw u).1];exact h.rn u o hr
 .have:=h.fw u o hX;by_cases e:u=t
  .subst e;unfold Pl.dJ;rw[di];exact this.set hi W hb hn
  grind[qp]
 rintro v (⟨u,j,a,o,Z,Y,e⟩|hv)
 .rw[(hw u).2.2.2.2]at Z;rw[G]at Y;by_cases e2:u=t/\j=i
  .grind[mh]
  rw[lN s f e2]at e;exact dW.root (af ⟨u,j,a,o,Z,Y,e⟩)
 exact dW.root (ah hv)
theorem fL.oK{X:Nat->Prop}(h:fL p s X)(o:t∈s.lv)(hX:X t)(hi:i<(s.T t).fr.length)(a:Nat)(u:dW p s v):fL p (s.dJ t i ((dq s t i).set a v)) X:=by
 refine h.dJ hi rfl rfl ((h.fw t o hX).f i hi).2 (λb y=>?_);show dW p s (B.set (dq s t i).R a v b);by_cases e:b=a
 .grind[B.jN]
 rw[B.iX _ _ _ _ e];exact dW.root (af ⟨t,i,b,o,hi,y,rfl⟩)
theorem fL.line{X:Nat->Prop}(h:fL p s X)(Y:t∈s.lv)(hn:s'.nt=s.nt)(a4:LW s')(hT:∀u,u≠t->s'.T u=s.T u)(a0:(s'.T t).fr=(s.T t).fr)(hq:∀x y,fN s x y->∀a,a∈s'.q x y->a∈s.q x y\/a=t)(a1:s'.lv=s.lv/\s'.out=s.out/\s'.kp=s.kp/\s'.ft=s.ft/\s'.clk=s.clk/\s'.kd=s.kd/\s'.M=s.M/\s'.ck=s.ck)(hw:∀x y,(s'.T t).wh=some (x,y)->(x=4\/x=5)->∃k,(s'.T t).lf=some k/\(s.T t).fr≠[]/\k.2.1<p.rg (dq s t ((s.T t).fr.length-1)).f)(a3:(s'.T t).lf≠none->∃x y,(s'.T t).wh=some (x,y)/\(x=4\/x=5))(a2:(s'.T t).run=true->(s'.T t).wh=none):fL p s' X:=by
 obtain⟨H,f2,Z,f4,f5,f6,f7,f8⟩:=a1;have i:∀u,(s'.T u).fr=(s.T u).fr:=λu=>by
  grind
 have W:∀u j,dq s' u j=dq s u j:=λu j=>gD (i u);refine⟨a4,λu o x y hx J=>?_,eV H h.nd,λu o=>(ey hn).2 (h.lt u eR),λx y G a ha=>?_,λu o G=>?_,λu o hr=>?_,by rw[f2,hn];exact h.ol,by rw[f2,Z];exact h.ok,eV Z h.kn,eV Z h.kz,λu o hX=>?_,h.roots f6 f7 ?_,by rw[f6,f8];exact h.fc,eV f4 h.bt,eV f5 h.c0,eV f5 h.c1⟩
 .rw[i u,W];by_cases e:u=t
  .grind
  rw[hT u e]at hx ⊢;exact h.ww u ((ey hn).1 o) x y hx J
 .grind[gC,F.fL.ql]
 .by_cases e:u=t
  .grind
  rw[hT u e]at G ⊢;exact h.lf u ((ey hn).1 o) G
 .grind[ey,F.fL.rn]
 .grind[F.fL.fw]
 rintro v (⟨u,j,a,o,hj,ha,e⟩|hv)
 .rw[W]at ha e;rw[i]at hj;rw[H]at o;exact dW.root (af ⟨u,j,a,o,hj,ha,e⟩)
 rw[Z]at hv;exact dW.root (ah hv)
theorem xd{X:Nat->Prop}(h:fL p s X)(ht:fm s t):((s.dz t).T t).lf=none:=by
 cases hw:(s.T t).wh with
 | none=>
  grind[fB,F.fL.lf]
 | some i=>rw[gJ (x:=i.1) (y:=i.2) hw,di];rfl
theorem po{a:Nat}(h:a∈(s.dz t).q x y):a∈s.q x y:=by
 cases hw:(s.T t).wh with
 | none=>grind[fB]
 | some i=>
  rw[gJ (x:=i.1) (y:=i.2) hw]at h;have o:a∈(s.fF i.1 i.2 ((s.q i.1 i.2).erase t)).q x y:=h;grind[gH,List.mem_of_mem_erase,fY]
theorem wZ(s:Pl)(t:Nat):(s.dz t).lv=s.lv/\(s.dz t).out=s.out/\(s.dz t).kp=s.kp/\(s.dz t).ft=s.ft/\(s.dz t).clk=s.clk/\(s.dz t).kd=s.kd/\(s.dz t).M=s.M/\(s.dz t).ck=s.ck:=by
 grind[g8]
theorem fL.into{p:dL}{s:Pl}{X:Nat->Prop}(h:fL p s X){x y t:Nat}{l:List Nat}(H:t∈s.lv)(hl:fN s x y)(hx:x=2\/x=3)(hd:l.Nodup)(Z:∀u,u∈l↔(u∈(s.dz t).q x y\/u=t)):fL p (s.into x y t l) X:=by
 have ht:=h.lt t H;have G:(s.into x y t l).T t=((s.dz t).T t).to x y:=di _ _ _;refine h.line H (gg s t) (h.lw.into ht hl ag hd Z) (λu e=>(dR _ _ e).trans (uy s e)) ?_ (λa b i c hc=>?_) (wZ s t) (λa b i a0=>?_) (λJ=>?_) (λY=>?_)
 .rw[G];exact kg s t t
 .have o:c∈((s.dz t).fF x y l).q a b:=hc;grind[gH,po,fY]
 .rw[G]at i;injection i with i;grind
 .rw[G]at J;exact dp (xd h ht) J
 rw[G]at Y;cases Y
theorem fL.dY{X:Nat->Prop}(h:fL p s X)(o:t∈s.lv):fL p (s.dY 2 0 t) X:=by
 have y:=h.lw.dz (h.lt t o);have G:fN s 2 0:=af ⟨rfl,rfl⟩;have i:=(gC (gg s t)).2 G;exact h.into o G (af rfl) (qw (y.c 2 0 i) (y.out i (by grind[ke]))) (λu=>by simp)
theorem fL.wait{p:dL}{s:Pl}{X:Nat->Prop}(h:fL p s X){x y t:Nat}{k:Nat×Nat×Nat×Nat}(G:t∈s.lv)(hX:X t)(hl:fN s x y)(hx:x=4\/x=5)(Y:¬(x=5/\y=t))(hk:k.2.1<p.rg (dq s t (de s t)).f):fL p (s.wait x y t k) X:=by
 have i:(s.wait x y t k).T t=(((s.dz t).T t).to x y).lK k:=by
  show((s.dY x y t).dx t _).T t=_;rw[di,jT]
 have J:∀u,((s.wait x y t k).T u).wh=((s.dY x y t).T u).wh:=λu=>by
  by_cases e:u=t
  .subst e;rw[i,jT];rfl
  show(((s.dY x y t).dx t _).T u).wh=_;grind[dR]
 refine h.line G (gg s t) ((h.lw.dY (h.lt t G) hl Y).same rfl rfl J) (λu e=>(dR _ _ e).trans (nh s e)) ?_ (λa b H c hc=>?_) (wZ s t) (λa b H a0=>⟨k,jx i,(h.fw t G hX).n1,hk⟩) (λ_=>⟨x,y,jx i,hx⟩) (λZ=>?_)
 .rw[i];exact kg s t t
 .have o:c∈((s.dz t).fF x y ((s.dz t).q x y++[t])).q a b:=hc;grind[gH,po,fY]
 rw[i]at Z;cases Z
def Pl.start(s:Pl)(t:Nat):Pl:=(s.dz t).dx t { (s.dz t).T t with run:=true }
theorem fL.start{p:dL}{s:Pl}{X:Nat->Prop}(h:fL p s X){t:Nat}(y:t∈s.lv):fL p (s.start t) X:=by
 have ht:=h.lt t y;have o:(s.start t).T t={ (s.dz t).T t with run:=true }:=di _ _ _;have i:∀u,((s.start t).T u).wh=((s.dz t).T u).wh:=λu=>by
  by_cases e:u=t
  .grind
  show(((s.dz t).dx t _).T u).wh=_;grind[dR]
 refine h.line y (gg s t) ((h.lw.dz ht).same rfl rfl i) (λu e=>(dR _ _ e).trans (uy s e)) (by grind[kg]) (λa b _ c J=>af (po (s:=s) (t:=t) J)) (wZ s t) (λa b G _=>?_) (λH=>?_) (λ_=>?_)
 .grind[ke]
 .grind[absurd,xd]
 rw[i,ke]
theorem fL.gn{p:dL}{s:Pl}{X:Nat->Prop}(h:fL p s X){t:Nat}(ht:fm s t)(hX:t∈s.lv->X t){v:B.V}(u:dW p s v):fL p (s.gn t v) X:=by
 unfold Pl.gn;split
 .exact h
 rename_i k o;obtain⟨x,y,hw,_⟩:=h.lf t ht eR;obtain⟨H,G,_⟩:=h.lw.a t ht x y hw;have i:=h.ql x y H t G;have hi:de s t<(s.T t).fr.length:=by
  have:=(h.fw t i (hX i)).n1;have:(s.T t).fr.length≠0:=λe=>this (db.1 e);unfold de;omega
 exact(h.oK i (hX i) hi k.2.1 u).dY i
theorem pN(h:u∈jS e v):u∈e\/(u=v/\v.1≠0):=by
 grind[jS]
theorem CD(h:u∈e):u∈jS e v:=by
 grind[jS]
theorem lD(h:v.1≠0):v∈jS e v:=by
 unfold jS;grind
theorem EJ{o:List B.V}(h:o.Nodup):(jS o v).Nodup:=by
 grind[jS,List.nodup_append]
theorem xk(s:Pl)(t:Nat)(v:B.V)(kind:Nat)(x:Int)(u:Nat):((s.gone t v kind x).T u).fr=(s.T u).fr:=by
 by_cases e:u=t
 .subst e;show(((s.dz u).dx u ((s.dz u).T u).stop).T u).fr=_;rw[di];exact kg s u u
 grind[nH]
theorem ja(s:Pl)(t:Nat)(v:B.V)(kind:Nat)(x:Int):(s.gone t v kind x).lv=s.lv.erase t/\(s.gone t v kind x).out=s.out.set (t-1) v/\(s.gone t v kind x).kp=jS s.kp v/\(s.gone t v kind x).ft=s.ft/\(s.gone t v kind x).clk=s.clk/\(s.gone t v kind x).kd=s.kd/\(s.gone t v kind x).M=s.M/\(s.gone t v kind x).ck=s.ck/\(s.gone t v kind x).ev=s.ev++[(kind,t,x)]/\(s.gone t v kind x).q=(s.dz t).q:=by
 obtain⟨k1,k2,u,y,i,J,H,o,G,e⟩:=g8 s t;refine⟨rfl,?_,?_,i,H,o,G,e,?_,rfl⟩
 .show(s.dz t).out.set (t-1) v=_;rw[k2]
 .show jS (s.dz t).kp v=_;rw[u]
 show(s.dz t).ev++[(kind,t,x)]=_;rw[y]
theorem fL.gone{p:dL}{s:Pl}{X Y:Nat->Prop}(h:fL p s X){t:Nat}(a2:t∈s.lv){v:B.V}(hv:dW p s v)(kind:Nat)(x:Int)(hY:∀u,u≠t->Y u->X u):fL p (s.gone t v kind x) Y:=by
 have ht:=h.lt t a2;have hn:=jL s t v kind x;obtain⟨H,f2,f3,f4,f5,f6,f7,f8,_,a0⟩:=ja s t v kind x;have a1:∀u j,dq (s.gone t v kind x) u j=dq s u j:=λu j=>gD (xk s t v kind x u);have W:(s.gone t v kind x).T t=((s.dz t).T t).stop:=di _ _ _;have J:=h.lw.gone ht v kind x;refine⟨J,h.ww.gone v kind x,by grind[F.fL.nd],λu i=>(ey hn).2 (h.lt u (List.mem_of_mem_erase (by rw[<-H];exact i))),λa b y c G=>?_,λu i y=>?_,λu i Z=>?_,by rw[f2,eA,hn];exact h.ol,λu i=>?_,by grind[EJ,F.fL.kn],λu i=>?_,λu i hy=>?_,h.roots f6 f7 ?_,by rw[f6,f8];exact h.fc,eV f4 h.bt,eV f5 h.c0,eV f5 h.c1⟩
 .have hb:=J.b a b y c G;have e:c≠t:=λe=>by
   grind[pO,ke]
  rw[H,h.nd.mem_erase_iff];rw[a0]at G;exact⟨e,h.ql a b ((gC hn).1 y) c (po G)⟩
 .by_cases e:u=t
  .subst e;rw[W]at y;exact dp (xd h ht) y
  rw[nH s v kind x e]at y ⊢;exact h.lf u ((ey hn).1 i) y
 .by_cases e:u=t
  .subst e;rw[W]at Z;cases Z
  grind[nH,ey,F.fL.rn,F.fL.nd]
 .grind[List.mem_or_eq_of_mem_set,CD,lD,F.fL.ok]
 .grind[pN,F.fL.kz]
 .grind[xk,F.fL.fw,F.fL.nd]
 rintro u (⟨c,j,a,G,hj,ha,e⟩|i)
 .rw[a1]at ha e;rw[xk]at hj;rw[H]at G;exact dW.root (af ⟨c,j,a,List.mem_of_mem_erase G,hj,ha,e⟩)
 rw[f3]at i;rcases pN i with o|o
 .exact dW.root (ah o)
 grind
def jg(s:Pl)(x y t:Nat):(s.dY x y t).lv=s.lv/\(s.dY x y t).out=s.out/\(s.dY x y t).kp=s.kp/\(s.dY x y t).ft=s.ft/\(s.dY x y t).clk=s.clk/\(s.dY x y t).kd=s.kd/\(s.dY x y t).M=s.M/\(s.dY x y t).ck=s.ck/\(s.dY x y t).ev=s.ev/\(s.dY x y t).sp=s.sp:=by
 obtain⟨k1,k2,u,G,i,J,W,o,H,e⟩:=g8 s t;exact⟨k1,k2,u,i,W,o,H,e,G,J⟩
theorem qG(s:Pl)(t:Nat)(v:B.V):(s.gn t v).lv=s.lv/\(s.gn t v).out=s.out/\(s.gn t v).kp=s.kp/\(s.gn t v).ft=s.ft/\(s.gn t v).clk=s.clk/\(s.gn t v).kd=s.kd/\(s.gn t v).M=s.M/\(s.gn t v).ck=s.ck/\(s.gn t v).ev=s.ev/\(s.gn t v).sp=s.sp:=by
 unfold Pl.gn;split
 .grind
 exact jg _ 2 0 t
theorem tW(v:B.V):∀(l:List Nat) (s:Pl),(s.eo v l).lv=s.lv/\(s.eo v l).kp=s.kp/\(s.eo v l).ev=s.ev/\(s.eo v l).nt=s.nt/\(s.eo v l).sp=s.sp
 | [],_=>⟨rfl,rfl,rfl,rfl,rfl⟩
 | t :: l,s=>by
  obtain⟨G,W,y,H,u⟩:=tW v l (s.gn t v);obtain⟨J,_,i,_,_,_,_,_,o,e⟩:=qG s t v;exact⟨G.trans J,W.trans i,y.trans o,H.trans (oq s t v),u.trans e⟩
theorem fL.eo{p:dL}{X:Nat->Prop}{v:B.V}:∀(l:List Nat) {s:Pl},fL p s X->(∀u,u∈l->fm s u)->(∀u,u∈s.lv->X u)->(v.1=0\/v∈s.kp)->fL p (s.eo v l) X
 | [],_,h,_,_,_=>h
 | t :: l,s,h,hl,hX,hv=>by
  obtain⟨y,_,o,_⟩:=qG s t v;refine fL.eo l (h.gn (hl t eB) (hX t) (hv.elim (λe=>af e) (λe=>dW.root (ah e)))) (λu i=>(ey (oq s t v)).2 (hl u (by simp[i]))) (λu i=>hX u (by rw[<-y];exact i)) (eV o hv)
theorem fL.leave{X:Nat->Prop}(h:fL p s X)(i:t∈s.lv)(hX:∀u,u≠t->X u)(y:dW p s v)(kind:Nat)(x:Int):Ok p (s.leave t v kind x):=by
 refine (h.gone i y kind x (λu o _=>hX u o)).eo _ (λu o=>(ey (jL s t v kind x)).2 (h.lw.b 5 t (ah (ah (ah ⟨rfl,h.lt t i⟩))) u o).1) (λ_ _=>trivial) ?_;grind[ja,lD]
def uF(s:Pl)(t:Nat)(v:B.V)(kind:Nat)(x:Int):(s.leave t v kind x).lv=s.lv.erase t/\(s.leave t v kind x).ev=s.ev++[(kind,t,x)]/\(s.leave t v kind x).nt=s.nt:=by
 obtain⟨u,_,o,y,_⟩:=tW v (s.q 5 t) (s.gone t v kind x);obtain⟨e,_,_,_,_,_,_,_,i,_⟩:=ja s t v kind x;exact⟨u.trans e,o.trans i,y.trans (jL s t v kind x)⟩
theorem my(l:List jc)(f:jc)(i:Nat):(l++[f]).getD i n6=if i=l.length then f else l.getD i n6:=by
 grind
theorem FW.push(h:l=[]\/FW p l)(H:l.length<20)(u:f.f<p.nf)(hn:f.nx<=p.len f.f)(y:l≠[]->f.bk.2.1<p.rg (l.getD (l.length-1) n6).f):FW p (l++[f]):=by
 have o:∀i,i<l.length->FW p l:=λi hi=>h.resolve_left (λe=>by grind);refine⟨eB,eR,λi hi=>?_,λi hi=>?_⟩
 .rw[cw,eI]at hi;rw[my];by_cases e:i=l.length
  .grind
  rw[au e];exact(o i ag).f i ag
 rw[cw,eI]at hi;rw[my,my];rw[au (show ¬i=l.length by omega)];by_cases e:i+1=l.length
 .grind
 rw[au e];grind[F.FW.b]
def tF(s:Pl)(t:Nat)(f:jc):((s.push t f).T t).fr=(s.T t).fr++[f]:=by unfold Pl.push;rw[di];rfl
def qt(s:Pl){u:Nat}(f:jc)(h:u≠t):(s.push t f).T u=s.T u:=dR _ _ h
theorem Ed(s:Pl)(t:Nat)(f:jc)(u:Nat):((s.push t f).T u).run=(s.T u).run:=by
 unfold Pl.push;by_cases e:u=t
 .subst e;rw[di];rfl
 grind[dR]
theorem fL.push{p:dL}{s:Pl}{X Y:Nat->Prop}(h:fL p s X){t:Nat}{f:jc}(hw:(s.T t).wh=none)(W:(s.T t).fr.length<20)(hF:(s.T t).fr=[]\/FW p (s.T t).fr)(hf:f.f<p.nf)(hn:f.nx<=p.len f.f)(hb:(s.T t).fr≠[]->f.bk.2.1<p.rg (dq s t (de s t)).f)(hR:∀a,a<p.rg f.f->dW p s (f.R a))(hY:∀u,u≠t->Y u->X u):fL p (s.push t f) Y:=by
 have G:=λu=>qT s t f u;have o:∀u,u≠t->(s.push t f).T u=s.T u:=λu e=>qt s f e;refine⟨h.lw.push t f,λu i x y J a0=>?_,h.nd,h.lt,h.ql,λu i W=>?_,λu i hr=>?_,h.ol,h.ok,h.kn,h.kz,λu i hy=>?_,h.roots rfl rfl ?_,h.fc,h.bt,h.c0,h.c1⟩
 .rw[(G u).1]at J;have e:u≠t:=λe=>by grind
  obtain⟨k,k1,k2,k3⟩:=h.ww u i x y J a0;grind[gD]
 .rw[(G u).2]at W;rw[(G u).1];exact h.lf u i W
 .rw[Ed]at hr;rw[(G u).1];exact h.rn u i hr
 .by_cases e:u=t
  .subst e;rw[tF];exact FW.push hF W hf hn hb
  rw[o u e];exact h.fw u i (hY u e hy)
 rintro v (⟨u,j,a,i,Z,H,e⟩|hv)
 .by_cases e1:u=t
  .subst e1;rw[tF,cw,eI]at Z;by_cases e2:j=(s.T u).fr.length
   .grind[wV]
   rw[pn s f (λ_=>by omega)]at H e;exact dW.root (af ⟨u,j,a,i,ag,H,e⟩)
  rw[pn s f (λe'=>dp e' e1)]at H e;rw[o u e1]at Z;exact dW.root (af ⟨u,j,a,i,Z,H,e⟩)
 exact dW.root (ah hv)
theorem FW.pop(h:FW p l)(y:2<=l.length):FW p l.dropLast:=by
 have o:∀i,i+1<l.length->l.dropLast.getD i n6=l.getD i n6:=λi hi=>by
  grind
 have u:l.dropLast.length=l.length-1:=eY;refine⟨λe=>?_,gp h.n2,λi hi=>?_,λi hi=>?_⟩
 .grind
 .rw[o i ag];exact h.f i ag
 grind[F.FW.b]
theorem lA(s:Pl){u:Nat}(h:u≠t):(s.pop t).T u=s.T u:=dR _ _ h
theorem Jv(s:Pl)(t:Nat):((s.pop t).T t).fr=(s.T t).fr.dropLast:=by unfold Pl.pop;rw[di];rfl
theorem A0(s:Pl)(t u:Nat):((s.pop t).T u).run=(s.T u).run:=by
 unfold Pl.pop;by_cases e:u=t
 .subst e;rw[di];rfl
 grind[dR]
theorem fL.pop{p:dL}{s:Pl}{X Y:Nat->Prop}(h:fL p s X){t:Nat}(hw:(s.T t).wh=none)(hY:∀u,Y u->X u/\(u≠t\/2<=(s.T t).fr.length)):fL p (s.pop t) Y:=by
 have o:=λu=>wY s t u;refine⟨h.lw.pop t,h.ww.pop hw,h.nd,h.lt,h.ql,λu i W=>?_,λu i J=>?_,h.ol,h.ok,h.kn,h.kz,λu i Z=>?_,h.roots rfl rfl ?_,h.fc,h.bt,h.c0,h.c1⟩
 .rw[(o u).2]at W;rw[(o u).1];exact h.lf u i W
 .rw[A0]at J;rw[(o u).1];exact h.rn u i J
 .obtain⟨k1,k2⟩:=hY u Z;have:=h.fw u i k1;grind[Jv,lA,F.FW.pop]
 rintro v (⟨u,j,a,i,G,y,e⟩|hv)
 .by_cases H:u=t
  .subst H;rw[tG]at G;rw[pJ s (λ_=>by omega)]at y e;exact dW.root (af ⟨u,j,a,i,ag,y,e⟩)
  rw[pJ s (λe'=>dp e' H)]at y e;rw[lA s H]at G;exact dW.root (af ⟨u,j,a,i,G,y,e⟩)
 exact dW.root (ah hv)
def qV(hw:(s.T t).wh=none)(v:B.V)(kind:Nat)(x:Int):(s.pop t).gone t v kind x=(s.gone t v kind x).pop t:=by
 have y:((s.pop t).T t).wh=none:=by rw[(wY s t t).1];exact hw
 have J:((s.pop t).gone t v kind x).T=((s.gone t v kind x).pop t).T:=by
  funext i
  by_cases e:i=t
  .subst e;have W:((s.pop i).gone i v kind x).T i=((s.pop i).T i).stop:=by
    show(((s.pop i).dz i).dx i (((s.pop i).dz i).T i).stop).T i=_;rw[di,fB y]
   have H:(s.gone i v kind x).T i=(s.T i).stop:=by
    show((s.dz i).dx i ((s.dz i).T i).stop).T i=_;rw[di,fB hw]
   rw[W];show _=((s.gone i v kind x).dx i _).T i;rw[di,H];show((s.dx i _).T i).stop=_;rw[di];rfl
  rw[nH _ v kind x e,lA s e,lA _ e,nH s v kind x e]
 have G:∀a b:Pl,a.nt=b.nt->a.T=b.T->a.q=b.q->a.lv=b.lv->a.out=b.out->a.kp=b.kp->a.ev=b.ev->a.ft=b.ft->a.sp=b.sp->a.clk=b.clk->a.kd=b.kd->a.M=b.M->a.ck=b.ck->a=b:=by
  rintro⟨⟩ ⟨⟩;simp only;rintro rfl rfl rfl rfl rfl rfl rfl rfl rfl rfl rfl rfl rfl;rfl
 have u:=fB y;have o:=fB hw;refine G _ _ ?_ J ?_ rfl ?_ ?_ ?_ ?_ ?_ ?_ ?_ ?_ ?_
 .rw[jL];show s.nt=(s.gone t v kind x).nt;rw[jL]
 .show((s.pop t).dz t).q=(s.dz t).q;rw[u,o];rfl
 .show((s.pop t).dz t).out.set (t-1) v=(s.dz t).out.set (t-1) v;rw[u,o];rfl
 .show jS ((s.pop t).dz t).kp v=jS (s.dz t).kp v;rw[u,o];rfl
 .show((s.pop t).dz t).ev++_=(s.dz t).ev++_;rw[u,o];rfl
 .show((s.pop t).dz t).ft=(s.dz t).ft;rw[u,o];rfl
 .show((s.pop t).dz t).sp=(s.dz t).sp;rw[u,o];rfl
 .show((s.pop t).dz t).clk=(s.dz t).clk;rw[u,o];rfl
 .show((s.pop t).dz t).kd=(s.dz t).kd;rw[u,o];rfl
 .show((s.pop t).dz t).M=(s.dz t).M;rw[u,o];rfl
 show((s.pop t).dz t).ck=(s.dz t).ck;rw[u,o];rfl
theorem Pl.ext'{a b:Pl}(Y:a.nt=b.nt)(J:a.T=b.T)(H:a.q=b.q)(G:a.lv=b.lv)(h5:a.out=b.out)(Z:a.kp=b.kp)(W:a.ev=b.ev)(h8:a.ft=b.ft)(y:a.sp=b.sp)(u:a.clk=b.clk)(o:a.kd=b.kd)(e:a.M=b.M)(i:a.ck=b.ck):a=b:=by
 obtain⟨⟩:=a;simp_all
theorem wP(l:List jc)(i:Nat)(f:jc)(hi:i+1<l.length):(l.set i f).dropLast=l.dropLast.set i f:=by
 apply List.ext_getElem?
 grind
theorem Eg(hi:i+1<(s.T t).fr.length):(s.pop t).dJ t i f=(s.dJ t i f).pop t:=by
 refine Pl.ext' rfl ?_ rfl rfl rfl rfl rfl rfl rfl rfl rfl rfl rfl;funext u
 grind[Pl.dJ,Pl.pop,di,qA.mz,wP,qp,lA]
theorem fL.back{p:dL}{s:Pl}(h:Ok p s){t:Nat}(i:t∈s.lv)(hw:(s.T t).wh=none){v:B.V}(J:dW p s v):Ok p (s.back t v):=by
 unfold Pl.back;by_cases e:de s t=0
 .rw[bf e];unfold Pl.leave;rw[qV hw];have y:t∉(s.gone t v 2 v.2).lv:=by rw[(ja s t v 2 v.2).1,h.nd.mem_erase_iff];exact λh=>h.1 rfl
  have G:Ok p ((s.gone t v 2 v.2).pop t):=((h.gone i J 2 v.2 (λ_ _ h=>h)).pop (by grind[pO,ke]) (λu o=>⟨trivial,af o⟩)).IZ (λu o _ e=>y (e▸o));refine G.eo _ (λu o=>?_) (λ_ _=>trivial) ?_
  .exact(ey (jL s t v 2 v.2)).2 (h.lw.b 5 t (ah (ah (ah ⟨rfl,h.lt t i⟩))) u o).1
  show v.1=0\/v∈(s.gone t v 2 v.2).kp;grind[ja,lD]
 rw[au e];have Z:2<=(s.T t).fr.length:=by unfold de at e;omega
 rw[Eg (by grind[de])];refine(h.oK i trivial (by grind[de]) _ J).pop (by grind[gI]) (λu _=>⟨trivial,ah ?_⟩);grind[gI]
theorem nz(s:Pl)(t:Nat)(v:B.V):(de s t=0->(s.back t v).lv=s.lv.erase t/\(s.back t v).ev=s.ev++[(2,t,v.2)]/\(s.back t v).nt=s.nt)/\(de s t≠0->(s.back t v).lv=s.lv/\(s.back t v).ev=s.ev/\(s.back t v).nt=s.nt/\(s.back t v).q=s.q):=by
 unfold Pl.back;constructor
 .intro e;rw[bf e];exact uF (s.pop t) t v 2 v.2
 intro e;rw[au e];exact⟨rfl,rfl,rfl,rfl⟩
theorem dW.mono(i:s'.M=s.M)(G:∀v,sH p s v->sH p s' v)(h:dW p s v):dW p s' v:=by
 have e:∀u,u∈eG p s->B.pR (eG p s') s'.M u:=λu o=>B.pR.mem (iw.2 (G u (iw.1 o)));unfold dW;rcases h with h|h|⟨k,y,h⟩
 .exact af h
 .grind
 refine ah (ah ⟨k,?_,eR⟩);grind[B.uo]
theorem fL.more{p:dL}{s:Pl}(h:Ok p s)(hn:s.nt+1<=500000000):fL p s.more (λu=>u≠s.nt+1):=by
 have W:∀u,u≠s.nt+1->s.more.T u=s.T u:=λu e=>nU s e;have H:s.more.T (s.nt+1)=rZ:=mL s
 have G:∀u,fm s u->u≠s.nt+1:=λu o e=>by have:=o.2;omega
 have Z:∀u j,u≠s.nt+1->dq s.more u j=dq s u j:=λu j e=>gD eR;refine⟨h.lw.more hn,λu o x y hx a0=>?_,?_,λu o=>?_,λx y Y a J=>?_,λu o Y=>?_,λu o hr=>?_,?_,λv hv=>?_,h.kn,h.kz,λu o hX=>?_,h.roots rfl rfl ?_,h.fc,h.bt,h.c0,h.c1⟩
 .rcases kK.1 o with i|i
  .rw[W u (G u i)]at hx ⊢;rw[Z u _ (G u i)];exact h.ww u i x y hx a0
  rw[i,H]at hx;cases hx
 .exact qw h.nd (λhm=>by grind[F.fL.lt])
 .rcases dV.1 (show u∈s.lv++[s.nt+1] from o) with i|i
  .grind[F.kK,F.fL.lt]
  grind[F.kK]
 .show a∈s.lv++[s.nt+1];rcases pK.1 Y with i|⟨rfl,rfl⟩
  .have hq:s.more.q x y=s.q x y:=qZ s (λe=>by
    grind[nG])
   grind[List.mem_append_left,F.fL.ql]
  have hq:s.more.q 5 (s.nt+1)=[]:=uC s;grind
 .rcases kK.1 o with i|i
  .grind[F.fL.lf]
  rw[i,H]at Y;exact dp rfl Y
 .rcases kK.1 o with i|i
  .rw[W u (G u i)]at hr ⊢;have:=h.rn u i hr;exact⟨this.1,eM _ this.2⟩
  rw[i,H]at hr;cases hr
 .show(s.out++[(0,0)]).length=s.nt+1;rw[cw,h.ol];rfl
 .rcases dV.1 (show v∈s.out++[(0,0)] from hv) with i|i
  .exact h.ok v i
  grind
 .rcases dV.1 (show u∈s.lv++[s.nt+1] from o) with i|i
  .rw[W u hX];exact h.fw u i trivial
  grind
 rintro v (⟨u,j,a,o,hj,J,e⟩|hv)
 .by_cases e1:u=s.nt+1
  .rw[e1,H]at hj;exact dp hj (Nat.not_lt_zero _)
  rw[Z u j e1]at J e;rw[W u e1]at hj;rcases dV.1 (show u∈s.lv++[s.nt+1] from o) with i|i
  .exact dW.root (af ⟨u,j,a,i,hj,J,e⟩)
  grind
 exact dW.root (ah hv)
theorem yI(h:Ok p s)(H:dW p s v):dW p s.more v:=by
 refine dW.mono (s:=s) (s':=s.more) rfl (λu i=>?_) H;rcases i with⟨c,j,a,G,J,W,e⟩|i
 .have y:s.more.T c=s.T c:=nU s (λe=>by have:=(h.lt c G).2;omega);refine af ⟨c,j,a,eM _ G,eR,?_,?_⟩
  .grind[gD]
  grind[gD]
 exact ah i
theorem qQ(e:dW p s u)(i:dW p s v)(a:Nat):dW p s (ig u v a):=by
 grind[ig,dW.num]
theorem fL.born(h:Ok p s)(hn:s.nt+1<=500000000){f:Nat}(y:f<p.nf)(o:dW p s u)(G:dW p s v):Ok p (s.born f u v):=by
 have i:s.more.T (s.nt+1)=rZ:=mL s;exact ((h.more hn).push (jx i) (by rw[i];decide) (af (jx i)) y (dk _) (λe=>dp (jx i) e) (λa _=>qQ (yI h o) (yI h G) a) (λ_ e _=>e)).dY (show s.nt+1∈s.lv++[s.nt+1] by simp)
def tQ(s:Pl)(f:Nat)(u v:B.V):(s.born f u v).lv=s.lv++[s.nt+1]/\(s.born f u v).ev=s.ev/\(s.born f u v).kp=s.kp/\(s.born f u v).M=s.M:=by
 obtain⟨k1,_,e,_,_,_,o,_,i,_⟩:=jg (s.more.push (s.nt+1) ⟨f,0,ig u v,(0,0,0,0)⟩) 2 0 (s.nt+1);exact⟨k1,i,e,o⟩
def Pl.ur(s:Pl)(a i:Nat)(v:B.V):Pl:={ s with kd:=B.told s.kd ((s.M a).getD i (0,0)),M:=B.lay s.M a ((s.M a).set i v) }
def fL.ur{X:Nat->Prop}(h:fL p s X){a:Nat}(o:B.nK (eG p s) s.M a)(e:dW p s v):fL p (s.ur a i v) X:=
 { lw:=h.lw.same rfl rfl (λ_=>rfl),ww:=h.ww,nd:=h.nd,lt:=h.lt,ql:=h.ql,lf:=h.lf,rn:=h.rn,ol:=h.ol,ok:=h.ok,kn:=h.kn,kz:=h.kz,fw:=h.fw,hl:=B.CH h.hl i o e,fc:=h.fc,bt:=h.bt,c0:=h.c0,c1:=h.c1 }
def Pl.oS(s:Pl)(kd1:B.Kd)(c ty:Nat)(l:List B.V):Pl:={ s with kd:=B.laid kd1 c,M:=B.lay s.M c l,ck:=λk=>if k=c then ty else s.ck k }
theorem fL.oS(h:Ok p s){a c ty:Nat}{i:B.Kd}{l:List B.V}(a4:t∈s.lv)(hk:B.lS i p.n (eG p s) s.M)(hs:∀k,1<=k->k<=p.n->i.on k=true->s.kd.on k=true)(h1:1<=c)(h2:c<=p.n)(h3:i.on c=false)(a5:ty<=p.nf)(hl:∀v,v∈l->dW p s v): Ok p ((s.oS i c ty l).dJ t (de s t) ((dq s t (de s t)).set a (c,0))):=by
 have hi:de s t<(s.T t).fr.length:=by
  have:(s.T t).fr.length≠0:=λe=>(h.fw t a4 trivial).n1 (db.1 e);unfold de;omega
 have hw:=λu=>gI s t (de s t) u ((dq s t (de s t)).set a (c,0));have W:∀u j,(dq (s.dJ t (de s t) ((dq s t (de s t)).set a (c,0))) u j).f=(dq s u j).f:=λu j=>by
  by_cases e:u=t/\j=de s t
  .obtain⟨rfl,rfl⟩:=e;rw[mh s _ hi];rfl
  grind[lN]
 have a2:∀u,(s.T u).fr≠[]->((s.dJ t (de s t) ((dq s t (de s t)).set a (c,0))).T u).fr≠[]:=λu h0 e=>h0 (by
  grind)
 refine { lw:=(h.lw.dJ t (de s t) ((dq s t (de s t)).set a (c,0))).same rfl rfl (λ_=>rfl),ww:=?_,nd:=h.nd,lt:=h.lt,ql:=h.ql,lf:=?_,rn:=?_,ol:=h.ol,ok:=h.ok,kn:=h.kn,kz:=h.kz,fw:=?_,hl:=?_,fc:=?_,bt:=h.bt,c0:=h.c0,c1:=h.c1 }
 .intro u o x y hx a1;obtain⟨k,k1,k2,k3⟩:=h.ww u o x y ((hw u).1.symm.trans hx) a1;refine⟨k,(hw u).2.1.trans k1,a2 u k2,?_⟩;show k.2.1<p.rg (dq (s.dJ t (de s t) ((dq s t (de s t)).set a (c,0))) u (((s.dJ t (de s t) ((dq s t (de s t)).set a (c,0))).T u).fr.length-1)).f;grind
 .intro u o a6;obtain⟨x,y,e,Z⟩:=h.lf u o (λe=>a6 ((hw u).2.1.trans e));exact⟨x,y,(hw u).1.trans e,Z⟩
 .intro u o hr;have:=h.rn u o ((hw u).2.2.1.symm.trans hr);exact⟨(hw u).1.trans this.1,this.2⟩
 .intro u o _;have:=h.fw u o trivial;show FW p ((s.dJ t (de s t) ((dq s t (de s t)).set a (c,0))).T u).fr;by_cases e:u=t
  .subst e;unfold Pl.dJ;rw[di];exact this.set hi rfl rfl (this.f _ hi).2
  grind[qp]
 .refine B.CI (L:=eG p s) hk h1 h2 h3 hl (λv hv=>?_);rcases iw.1 hv with⟨u,j,b,o,hj,hb,e⟩|hv
  .have H:=(hw u).2.2.2.2▸hj;have J:=(W u j)▸hb;have e':(dq (s.dJ t (de s t) ((dq s t (de s t)).set a (c,0))) u j).R b=v:=e;by_cases Z:u=t/\j=de s t
   .obtain⟨rfl,rfl⟩:=Z;rw[mh s _ hi]at e';have Y:B.set (dq s u (de s u)).R a (c,0) b=v:=e';by_cases e4:b=a
    .subst e4;rw[B.jN]at Y;exact af Y.symm
    rw[B.iX _ _ _ _ e4]at Y;exact ah (dW.root (af ⟨u,_,b,o,H,J,Y⟩))
   rw[lN s _ Z]at e';exact ah (dW.root (af ⟨u,j,b,o,H,J,e'⟩))
  exact ah (dW.root (ah hv))
 intro k k1 k2 a0;show(if k=c then ty else s.ck k)<=p.nf;by_cases e:k=c
 .rw[bf e];exact a5
 rw[au e];have G:B.mark i.on c k=true:=a0;rw[B.fZ _ _ _ e]at G;exact h.fc k k1 k2 (hs k k1 k2 G)
def Pl.vk(s:Pl)(kd:B.Kd):Pl:={ s with kd:=kd }
def fL.vk{X:Nat->Prop}(h:fL p s X){kd:B.Kd}(e:B.lS kd p.n (eG p s) s.M)(o:∀k,1<=k->k<=p.n->kd.on k=true->s.kd.on k=true):fL p (s.vk kd) X:=
 { lw:=h.lw.same rfl rfl (λ_=>rfl),ww:=h.ww,nd:=h.nd,lt:=h.lt,ql:=h.ql,lf:=h.lf,rn:=h.rn,ol:=h.ol,ok:=h.ok,kn:=h.kn,kz:=h.kz,fw:=h.fw,hl:=e,fc:=λk k1 k2 i=>h.fc k k1 k2 (o k k1 k2 i),bt:=h.bt,c0:=h.c0,c1:=h.c1 }
theorem fL.stop{p:dL}{s:Pl}{X:Nat->Prop}(h:fL p s X){t:Nat}(G:t∈s.lv):fL p (s.dx t (s.T t).stop) X:=by
 have ht:=h.lt t G;have i:(s.dx t (s.T t).stop).T t=(s.T t).stop:=di _ _ _;have o:∀u,((s.dx t (s.T t).stop).T u).wh=(s.T u).wh:=λu=>by
  by_cases e:u=t
  .subst e;rw[i];rfl
  grind[dR]
 refine h.line G rfl (h.lw.same rfl rfl o) (λu e=>dR _ _ e) (jx i) (λ_ _ _ _ h=>af h) ⟨rfl,rfl,rfl,rfl,rfl,rfl,rfl,rfl⟩ (λx y W H=>?_) (λY=>?_) (λJ=>?_)
 .rw[o]at W;obtain⟨k,k1,k2,Z⟩:=h.ww t ht x y W H;exact⟨k,eV i k1,k2,Z⟩
 .rw[i]at Y;obtain⟨x,y,e,e2⟩:=h.lf t ht Y;grind
 rw[i]at J;cases J
def Pl.mf(s:Pl)(t:Nat):Pl:={ s.dx t (s.T t).stop with sp:=true,ev:=s.ev++[(5,t,0)] }
def fL.mf{X:Nat->Prop}(h:fL p s X)(e:t∈s.lv):fL p (s.mf t) X:=(h.stop e).same rfl rfl rfl rfl rfl rfl rfl rfl rfl rfl rfl
def fL.told{X:Nat->Prop}(h:fL p s X)(kind t:Nat)(x:Int):fL p (s.told kind t x) X:=h.same rfl rfl rfl rfl rfl rfl rfl rfl rfl rfl rfl
theorem fL.fO  {X : Nat → Prop} (h : fL p s X) (k : Nat) (l : List Nat) (hl : l.length ≤ 1000 ∧ ∀ x, x ∈ l → x < 256) : fL p (s.fO k l) X :=
  { lw := h.lw.same rfl rfl (fun _ => rfl), ww := h.ww, nd := h.nd, lt := h.lt, ql := h.ql, lf := h.lf, rn := h.rn, ol := h.ol, ok := h.ok, kn := h.kn, kz := h.kz, fw := h.fw, hl := h.hl, fc := h.fc, bt := fun i => by
      show ((if i = k then l else s.ft i)).length ≤ 1000 ∧ ∀ x, x ∈ (if i = k then l else s.ft i) → x < 256
      by_cases e : i = k
      · grind
      · rw[au e]; exact h.bt i, c0 := h.c0, c1 := h.c1 }
def kO(l:List tU):List Nat:=(l.filter (λe=>e.1 == 2 || e.1 == 3 || e.1 == 4)).map (·.2.1)
def IG(t:Nat)(gone:List Nat):List tU->Prop
 | []=>True
 | e :: l=>e.2.1∉gone/\(e.1≠4->e.2.1=t)/\IG t (gone++kO [e]) l
theorem vY(l m:List tU):kO (l++m)=kO l++kO m:=by grind[kO]
theorem Bz{t:Nat}:∀(l m:List tU) (gone:List Nat),IG t gone l->IG t (gone++kO l) m->IG t gone (l++m)
 | [],m,gone,_,h=>by
  grind[kO]
 | e :: l,m,gone,h1,h2=>by
  refine⟨h1.1,h1.2.1,Bz l m _ h1.2.2 ?_⟩;rw[fS,<-vY];exact h2
def N7(l:List tU):Prop:=∀e,e∈l->e.1≠4
def Gn(s:Pl)(gone:List Nat):Prop:=∀u,u∈gone->fm s u/\u∉s.lv
def Go(t c:Nat)(s s':Pl):Prop:=∃l,s'.ev=s.ev++l/\l.length<=c/\(s.nt<=s'.nt/\s'.nt<=s.nt+c)/\(∀gone,Gn s gone->IG t gone l/\Gn s' (gone++kO l))/\(N7 l->∃m,s'.q 2 0=s.q 2 0++m)
theorem Go.trans{c:Nat}{i:Pl}(h:Go t c s s')(J:Go t d s' i):Go t (c+d) s i:=by
 obtain⟨l,a1,a2,a3,Y,Z⟩:=h;obtain⟨m,H,b2,b3,b4,o⟩:=J;refine⟨l++m,eR,eR,ag,λgone hg=>?_,λhn=>?_⟩
 .grind[Bz,vY,List.append_assoc]
 obtain⟨x,W⟩:=Z (λe he=>hn e (eM _ he));obtain⟨y,G⟩:=o (λe he=>hn e (List.mem_append_right _ he));grind
theorem Go.mono{c:Nat}(h:Go t c s s')(o:c<=d):Go t d s s':=by
 obtain⟨l,e,y,u,i⟩:=h;exact⟨l,e,ag,ag,i⟩
theorem Go.quiet(he:s'.ev=s.ev)(G:s'.lv=s.lv)(hn:s'.nt=s.nt)(y:∃m,s'.q 2 0=s.q 2 0++m):Go t 0 s s':=by
 refine⟨[],eR,bq _,ag,λgone o=>⟨trivial,λu i=>?_⟩,λ_=>y⟩;have e:u∈gone:=by
  unfold kO at i;simpa using i
 exact⟨(ey hn).2 (o u e).1,by rw[G];exact(o u e).2⟩
theorem Go.same(he:s'.ev=s.ev)(i:s'.lv=s.lv)(hn:s'.nt=s.nt)(e:s'.q 2 0=s.q 2 0):Go t 0 s s':=Go.quiet he i hn ⟨[],eR⟩
theorem Go.Io{x:Int}(G:k=1\/k=5)(i:t∈s.lv)(he:s'.ev=s.ev++[(k,t,x)])(W:s'.lv=s.lv)(hn:s'.nt=s.nt)(H:s'.q 2 0=s.q 2 0):Go t 1 s s':=by
 have o:kO [(k,t,x)]=[]:=by rcases G with rfl|rfl<;>rfl
 refine⟨[(k,t,x)],he,bq _,ag,λgone y=>⟨⟨λJ=>(y t J).2 i,λ_=>rfl,trivial⟩,λu e=>?_⟩,λ_=>⟨[],eR⟩⟩;rw[o,gS]at e;exact⟨(ey hn).2 (y u e).1,by rw[W];exact(y u e).2⟩
theorem Go.ends{u:Nat}{x:Int}(W:(k=2/\u=t)\/(k=3/\u=t)\/k=4)(y:u∈s.lv)(hu:fm s u)(H:s.lv.Nodup)(he:s'.ev=s.ev++[(k,u,x)])(Z:s'.lv=s.lv.erase u)(hn:s'.nt=s.nt)(hq:k≠4->∃m,s'.q 2 0=s.q 2 0++m):Go t 1 s s':=by
 have G:kO [(k,u,x)]=[u]:=by rcases W with⟨rfl,_⟩|⟨rfl,_⟩|rfl<;>rfl
 refine⟨[(k,u,x)],he,bq _,ag,λgone J=>⟨⟨λi=>(J u i).2 y,λh4=>?_,trivial⟩,λa Y=>?_⟩,λhc=>hq (hc (k,u,x) eB)⟩
 .grind
 rw[G]at Y;rcases dV.1 Y with o|o
 .refine⟨(ey hn).2 (J a o).1,λi=>(J a o).2 ?_⟩;grind
 grind[ey]
theorem Go.born(he:s'.ev=s.ev)(W:s'.lv=s.lv++[s.nt+1])(hn:s'.nt=s.nt+1)(J:∃m,s'.q 2 0=s.q 2 0++m):Go t 1 s s':=by
 refine⟨[],eR,dk _,ag,λgone H=>⟨trivial,λu y=>?_⟩,λ_=>J⟩;have i:u∈gone:=by
  unfold kO at y;simpa using y
 have:=(H u i).1;refine⟨⟨this.1,gp this.2⟩,λG=>?_⟩;rw[W]at G;rcases dV.1 G with o|o
 .exact(H u i).2 o
 have e:u=s.nt+1:=gG o;have:=this.2;omega
theorem nW(hw:(s.T t).wh≠some (2,0)):(s.dY 2 0 t).q 2 0=s.q 2 0++[t]:=by
 show((s.dz t).fF 2 0 ((s.dz t).q 2 0++[t])).q 2 0=_;grind[gH,sm]
theorem EK{a b:Nat}(hw:(s.T t).wh≠some (a,b))(h:¬(a=x/\b=y)):(s.dY x y t).q a b=s.q a b:=by
 show((s.dz t).fF x y _).q a b=_;grind[fY,sm]
theorem AB{X:Nat->Prop}(h:fL p s X)(ht:fm s t)(v:B.V):∃m,(s.gn t v).q 2 0=s.q 2 0++m:=by
 unfold Pl.gn;split
 .simp_all
 rename_i k i;obtain⟨x,y,hw,o⟩:=h.lf t ht eR;refine⟨[t],nW ?_⟩;grind[gI]
theorem qj{p:dL}{X:Nat->Prop}{v:B.V}:∀(l:List Nat) {s:Pl},fL p s X->(∀u,u∈l->fm s u)->(∀u,u∈s.lv->X u)->(v.1=0\/v∈s.kp)->∃m,(s.eo v l).q 2 0=s.q 2 0++m
 | [],s,_,_,_,_=>⟨[],jx gS⟩
 | t :: l,s,h,hl,hX,hv=>by
  obtain⟨H,_,y,_⟩:=qG s t v;obtain⟨m,G⟩:=AB h (hl t eB) v;obtain⟨m',o⟩:=qj l (h.gn (hl t eB) (hX t) (hv.elim (λe=>af e) (λe=>dW.root (ah e)))) (λu i=>(ey (oq s t v)).2 (hl u (by simp[i]))) (λu i=>hX u eR) (eV y hv);exact⟨m++m',by show((s.gn t v).eo v l).q 2 0=_;grind⟩
theorem EE{X:Nat->Prop}(h:fL p s X)(i:t∈s.lv)(hX:∀u,u≠t->X u)(hw:(s.T t).wh=none)(y:dW p s v)(kind:Nat)(x:Int):∃m,(s.leave t v kind x).q 2 0=s.q 2 0++m:=by
 obtain⟨m,G⟩:=qj (v:=v) (s.q 5 t) (h.gone i y kind x (λu o _=>hX u o)) (λu o=>(ey (jL s t v kind x)).2 (h.lw.b 5 t (ah (ah (ah ⟨rfl,h.lt t i⟩))) u o).1) (λ_ _=>trivial) (by
  grind[ja,lD])
 refine⟨m,?_⟩;show((s.gone t v kind x).eo v (s.q 5 t)).q 2 0=_;grind[ja,fB]
theorem BC(h:Ok p s)(o:t∈s.lv)(hw:(s.T t).wh=none)(W:dW p s v):∃m,(s.back t v).q 2 0=s.q 2 0++m:=by
 by_cases e:de s t=0
 .unfold Pl.back;rw[bf e];unfold Pl.leave;rw[qV hw];have y:t∉(s.gone t v 2 v.2).lv:=by rw[(ja s t v 2 v.2).1,h.nd.mem_erase_iff];exact λh=>h.1 rfl
  have J:fL p ((s.gone t v 2 v.2).pop t) (λu=>u≠t):=(h.gone o W 2 v.2 (λ_ _ h=>h)).pop (by grind[pO,ke]) (λu i=>⟨trivial,af i⟩);obtain⟨m,Y⟩:=qj (v:=v) ((s.pop t).q 5 t) (J.IZ (λu i _ e=>y (e▸i))) (λu i=>(ey (jL s t v 2 v.2)).2 (h.lw.b 5 t (ah (ah (ah ⟨rfl,h.lt t o⟩))) u i).1) (λ_ _=>trivial) (by
   show v.1=0\/v∈(s.gone t v 2 v.2).kp;grind[ja,lD])
  refine⟨m,Y.trans ?_⟩;show(s.gone t v 2 v.2).q 2 0++m=_;grind[ja,fB]
 exact⟨[],by grind[nz]⟩
theorem Go.back(h:Ok p s)(i:t∈s.lv)(hw:(s.T t).wh=none)(u:dW p s v):Go t 1 s (s.back t v):=by
 by_cases e:de s t=0
 .grind[nz,Go.ends,BC,F.fL.lt,F.fL.nd]
 obtain⟨k1,k2,o,_⟩:=(nz s t v).2 e;exact(Go.quiet k2 k1 o (BC h i hw u)).mono ag
end F
namespace F
abbrev vF:=Nat×Nat×Nat×Nat
def FY(s:Pl)(x y:B.V):Prop:=x.1≠0/\s.ck x.1=0/\y.1=0/\0<=y.2/\y.2<((s.M x.1).length:Int)
def ot(s:Pl)(x y:B.V):Nat:=if x.1=0\/s.ck x.1≠0 then 2 else if y.1≠0 then 1 else 3
def mM(p:dL)(s:Pl)(t a ty:Nat)(l:List B.V)(s':Pl):Prop:=
 (∃(c:Nat) (kd1:B.Kd),1<=c/\c<=p.n/\kd1.on c=false/\B.lS kd1 p.n (eG p s) s.M/\IP (eG p s).length p.n (B.oi (eG p s) s.M) s.kd kd1/\s'=(s.oS kd1 c ty l).dJ t (de s t) ((bw s t).set a (c,0))) \/
 ((∀c,1<=c->c<=p.n->B.nK (eG p s) s.M c)/\∃kd1,B.lS kd1 p.n (eG p s) s.M/\s'=(s.vk kd1).mf t)
def xT(s:Pl)(t o a b c:Nat)(why:Int)(s':Pl):Prop:=
 (F7 s t b c/\why=0/\s'=qv s t a (arith o ((bw s t).R b).2 ((bw s t).R c).2))\/(¬F7 s t b c/\why=1/\s'=s)
def kM(p:dL)(s:Pl)(t:Nat)(k:vF)(why:Int)(s':Pl):Prop:=
 match k.1 with
 | 0=>why=0/\s'=qv s t k.2.1 (B.wide k.2.2.1 k.2.2.2)
 | 1=>why=0/\s'=s.dJ t (de s t) ((bw s t).set k.2.1 ((bw s t).R k.2.2.1))
 | 2=>xT s t 2 k.2.1 k.2.2.1 k.2.2.2 why s'
 | 3=>xT s t 3 k.2.1 k.2.2.1 k.2.2.2 why s'
 | 4=>xT s t 4 k.2.1 k.2.2.1 k.2.2.2 why s'
 | 5=>xT s t 5 k.2.1 k.2.2.1 k.2.2.2 why s'
 | 6=>why=0/\s'=qv s t k.2.1 (if(bw s t).R k.2.2.1=(bw s t).R k.2.2.2 then 1 else 0)
 | 7=>why=0/\s'=s.dJ t (de s t) { bw s t with nx:=256*k.2.2.1+k.2.2.2 }
 | 8=>why=0/\s'=s.dJ t (de s t) { bw s t with nx:=if(bw s t).R k.2.1=(0,0) then 256*k.2.2.1+k.2.2.2 else(bw s t).nx }
 | 9=>why=0/\mM p s t k.2.1 0 (List.replicate k.2.2.1 (0,0)) s'
 | 10=>(FY s ((bw s t).R k.2.2.1) ((bw s t).R k.2.2.2)/\why=0/\s'=s.dJ t (de s t) ((bw s t).set k.2.1 ((s.M ((bw s t).R k.2.2.1).1).getD ((bw s t).R k.2.2.2).2.toNat (0,0))))\/(¬FY s ((bw s t).R k.2.2.1) ((bw s t).R k.2.2.2)/\why=(ot s ((bw s t).R k.2.2.1) ((bw s t).R k.2.2.2):Nat)/\s'=s)
 | 11=>(FY s ((bw s t).R k.2.1) ((bw s t).R k.2.2.1)/\why=0/\s'=s.ur ((bw s t).R k.2.1).1 ((bw s t).R k.2.2.1).2.toNat ((bw s t).R k.2.2.2))\/(¬FY s ((bw s t).R k.2.1) ((bw s t).R k.2.2.1)/\why=(ot s ((bw s t).R k.2.1) ((bw s t).R k.2.2.1):Nat)/\s'=s)
 | 12=>why=0/\mM p s t k.2.1 (k.2.2.1+1) [(bw s t).R k.2.2.2] s'
 | 13=>why=ry (fz s ((bw s t).R k.2.2.1)).2.2 (s.T t).fr.length/\s'=mS s t k
 | 14=>why=0/\s'=s.back t ((bw s t).R k.2.1)
 | 15=>why=kG (fz s ((bw s t).R k.2.2.1)).2.2 s.lv.length p.mt/\s'=lV p s t k
 | 16=>why=0/\s'=s.dY 2 0 t
 | 17=>why=(jl s t k.2.1).1/\s'=(jl s t k.2.1).2
 | 18=>why=(jb s t k).1/\s'=(jb s t k).2
 | 19=>why=(iz s t k.2.1).1/\s'=(iz s t k.2.1).2
 | 20=>why=(jU s t k.2.1).1/\s'=(jU s t k.2.1).2
 | 21=>why=(kJ s t k).1/\s'=(kJ s t k).2
 | 22=>why=0/\s'=qv s t k.2.1 s.clk
 | _=>False
def Kt(p:dL)(f:Nat)(k:vF):Prop:=
 k.1<23/\k.2.1<256/\k.2.2.1<256/\k.2.2.2<256/\(k.1≠7->k.1≠16->k.2.1<p.rg f)/\(k.1=1\/(2<=k.1/\k.1<=6)\/k.1=10\/k.1=11\/k.1=13\/k.1=15\/k.1=18\/k.1=21->k.2.2.1<p.rg f) /\
 ((2<=k.1/\k.1<=6)\/k.1=10\/k.1=11\/k.1=12\/k.1=13\/k.1=15->k.2.2.2<p.rg f)/\(k.1=7\/k.1=8->256*k.2.2.1+k.2.2.2<=p.len f)/\(k.1=9->k.2.2.1<=8)/\(k.1=12->k.2.2.1<p.nf)
structure Rn(p:dL) (s:Pl) (t:Nat):Prop where
 ok:Ok p s
 lv:t∈s.lv
 run:(s.T t).run=true
section
variable {p:dL}{s:Pl}{t:Nat} (h:Rn p s t)
include h
def Rn.ht:fm s t:=h.ok.lt t h.lv
theorem Rn.wh:(s.T t).wh=none:=(h.ok.rn t h.ht h.run).1
theorem Rn.fw:FW p (s.T t).fr:=h.ok.fw t h.lv trivial
theorem Rn.hi:de s t<(s.T t).fr.length:=by
 have:(s.T t).fr.length≠0:=λe=>h.fw.n1 (db.1 e);grind[de]
theorem Rn.lf:(s.T t).lf=none:=by
 cases hl:(s.T t).lf with
 | none=>rfl
 | some k=>
  obtain⟨x,y,e,_⟩:=h.ok.lf t h.ht eR;rw[h.wh]at e;cases e
def Rn.iC:In s t:=⟨h.ht,h.hi⟩
theorem Rn.nM{a:Nat}(e:a<p.rg (bw s t).f):dW p s ((bw s t).R a):=dW.root (af ⟨t,de s t,a,h.lv,h.hi,e,rfl⟩)
theorem Rn.ff:(bw s t).f<p.nf/\(bw s t).nx<=p.len (bw s t).f:=h.fw.f _ h.hi
theorem Rn.oK(a:Nat){v:B.V}(e:dW p s v):Ok p (s.dJ t (de s t) ((bw s t).set a v)):=h.ok.oK h.lv trivial h.hi a e
end
variable {k:vF}{l:List Nat}{p:dL}{s s':Pl}{t:Nat}
theorem uJ{a:Nat}(e:B.nK (eG p s) s.M a)(i:Nat):dW p s ((s.M a).getD i (0,0)):=by
 by_cases hi:i<(s.M a).length
 .refine ah (ah ⟨a,e,?_⟩);grind
 grind[List.getElem?_eq_none,dW.num]
theorem pP{X:Nat->Prop}(h:fL p s X){x:B.V}(hx:dW p s x)(i:(fz s x).2.2=true):(fz s x).1<p.nf/\dW p s (fz s x).2.1:=by
 by_cases e:x.1=0\/s.ck x.1=0
 .unfold fz at i;grind
 have o:=h.AF hx;have y:x.1≠0:=λu=>e (af u);have Y:s.ck x.1≠0:=λu=>e (ah u);rcases o with o|⟨G,J,H,_⟩
 .omega
 have W:=h.fc x.1 G J H;unfold fz;rw[au e];exact⟨ag,uJ (B.pR.vO hx y) 0⟩
theorem IP.dn{e:B.Kd}(h:IP (eG p s).length p.n (B.oi (eG p s) s.M) s.kd e)(k:Nat)(k1:1<=k)(k2:k<=p.n)(i:e.on k=true):s.kd.on k=true:=by
 rcases h with h|h
 .grind
 grind
def Bc{a ty:Nat}{l:List B.V}(h:Rn p s t)(o:ty<=p.nf)(Y:∀v,v∈l->dW p s v)(W:mM p s t a ty l s'):Ok p s'/\Go t 1 s s':=by
 rcases W with⟨c,e,i,u,J,H,G,rfl⟩|⟨i,e,u,rfl⟩
 .exact⟨h.ok.oS h.lv H G.dn i u J o Y,(Go.same rfl rfl rfl rfl).mono ag⟩
 have y:Ok p (s.vk e):=h.ok.vk u (λk k1 k2 _=>(B.qS h.ok.hl (i k k1 k2)).1);exact⟨y.mf h.lv,Go.Io (ah rfl) h.lv rfl rfl rfl rfl⟩
theorem xf{a:Nat}(h:Rn p s t)(x:Int):Ok p (qv s t a x)/\Go t 1 s (qv s t a x):=⟨h.oK a (dW.num x),(Go.same rfl rfl rfl rfl).mono ag⟩
theorem fL.fK{p:dL}{s:Pl}{X:Nat->Prop}(h:fL p s X){t:Nat}(i:t∈s.lv)(u:Int):fL p (s.fK t u) X:=by
 have ht:=h.lt t i;have hw:=λa=>mF s t u a;refine h.line i rfl (h.lw.fK t u) (λu e=>dR _ _ e) (hw t).2.2.1 (λ_ _ _ _ h=>af h) ⟨rfl,rfl,rfl,rfl,rfl,rfl,rfl,rfl⟩ (λx y H o=>?_) (λJ=>?_) (λG=>?_)
 .rw[(hw t).1]at H;obtain⟨k,k1,k2,W⟩:=h.ww t ht x y H o;grind
 .grind[F.fL.lf]
 grind[F.fL.rn]
theorem Cp(k:Nat)(h:l.Nodup)(ht:t∉l):(l.take k++t :: l.drop k).Nodup:=by
 grind[List.perm_middle,List.take_append_drop,List.nodup_cons]
theorem GR(k a:Nat):a∈l.take k++t :: l.drop k↔(a∈l\/a=t):=by
 have e:(l.take k++t :: l.drop k).Perm (t :: l):=by
  have:=List.perm_middle (a:=t) (l₁:=l.take k) (l₂:=l.drop k);rw[List.take_append_drop]at this;exact this
 grind
theorem DQ(h:Rn p s t)(u:Int):Ok p (s.iq t u)/\Go t 1 s (s.iq t u):=by
 have G:Ok p (s.fK t u):=h.ok.fK h.lv u;have i:((s.fK t u).T t).wh=none:=by rw[(mF s t u t).1];exact h.wh
 have y:fN (s.fK t u) 3 0:=ah (af ⟨rfl,rfl⟩);have o:t∉s.q 3 0:=G.lw.out y eR;refine⟨G.into h.lv y (ah rfl) (Cp _ (h.ok.lw.c 3 0 y) o) (λa=>?_),(Go.same ?_ ?_ ?_ ?_).mono ag⟩
 .rw[fB i];exact GR _ a
 .show((s.fK t u).dz t).ev=_;rw[fB i];rfl
 .show((s.fK t u).dz t).lv=_;rw[fB i];rfl
 .show((s.fK t u).dz t).nt=_;rw[fB i];rfl
 show(((s.fK t u).dz t).fF 3 0 ((s.q 3 0).take (Cn (s.fK t u) u)++t :: (s.q 3 0).drop (Cn (s.fK t u) u))).q 2 0=_;rw[fY _ _ ag,fB i];rfl
theorem AE{x y:Nat}(hw:(s.T t).wh=none)(hx:x=4\/x=5):Go t 1 s (s.wait x y t k):=by
 obtain⟨k1,_,_,_,_,_,_,_,i,_⟩:=jg s x y t;refine(Go.same i k1 (iF s x y t) ?_).mono ag;grind[EK]
theorem Hw(h:Rn p s t)(u:k.2.1<p.rg (bw s t).f)(G:k.2.2.1<p.rg (bw s t).f)(y:k.2.2.2<p.rg (bw s t).f):Ok p (mS s t k)/\Go t 1 s (mS s t k):=by
 unfold mS;split
 .rename_i e;obtain⟨i,o⟩:=pP h.ok (h.nM G) e.1;exact⟨h.ok.push h.wh (gp h.fw.n2) (ah h.fw) i (dk _) (λ_=>u) (λa _=>qQ (h.nM y) o a) (λ_ _ _=>trivial),(Go.same rfl rfl rfl rfl).mono ag⟩
 exact⟨h.ok,(Go.same rfl rfl rfl rfl).mono ag⟩
theorem DO(h:Rn p s t)(hn:s.nt+1<=500000000)(hb:k.2.2.1<p.rg (bw s t).f)(J:k.2.2.2<p.rg (bw s t).f):Ok p (lV p s t k)/\Go t 1 s (lV p s t k):=by
 unfold lV;split
 .rename_i Y;obtain⟨Z,f2⟩:=pP h.ok (h.nM hb) Y.1;have y:=qz s (fz s ((bw s t).R k.2.2.1)).1 ((bw s t).R k.2.2.2) (fz s ((bw s t).R k.2.2.1)).2.1 h.ht;obtain⟨u,G,_,_⟩:=tQ s (fz s ((bw s t).R k.2.2.1)).1 ((bw s t).R k.2.2.2) (fz s ((bw s t).R k.2.2.1)).2.1;have o:dq (s.born (fz s ((bw s t).R k.2.2.1)).1 ((bw s t).R k.2.2.2) (fz s ((bw s t).R k.2.2.1)).2.1) t (de s t)=bw s t:=gD (by rw[y]);have W:(s.born (fz s ((bw s t).R k.2.2.1)).1 ((bw s t).R k.2.2.2) (fz s ((bw s t).R k.2.2.1)).2.1).q 2 0=s.q 2 0++[s.nt+1]:=by
   have:=nW (s:=s.more.push (s.nt+1) ⟨(fz s ((bw s t).R k.2.2.1)).1,0,ig ((bw s t).R k.2.2.2) (fz s ((bw s t).R k.2.2.1)).2.1,(0,0,0,0)⟩) (t:=s.nt+1) (by
    rw[(qT _ _ _ _).1];have:s.more.T (s.nt+1)=rZ:=mL s;rw[this];intro e;cases e)
   refine this.trans ?_;have:s.more.q 2 0=s.q 2 0:=qZ s (a:=2) (b:=0) (λe=>by omega);show s.more.q 2 0++_=_;rw[this]
  refine⟨?_,Go.born G u (ny s _ _ _) ⟨_,W⟩⟩;have:=(h.ok.born hn Z (h.nM J) f2).oK (t:=t) (i:=de s t) (by rw[u];exact eM _ h.lv) trivial (eV y h.hi) k.2.1 (v:=(0,((s.nt+1:Nat):Int))) (dW.num _);grind
 exact⟨h.ok,(Go.same rfl rfl rfl rfl).mono ag⟩
theorem FE(h:Rn p s t)(y:k.2.1<p.rg (bw s t).f):Ok p (jb s t k).2/\Go t 1 s (jb s t k).2:=by
 have o:Ok p s/\Go t 1 s s:=⟨h.ok,(Go.same rfl rfl rfl rfl).mono ag⟩;unfold jb;split
 .split
  .rename_i J;show Ok p (match gW s ((bw s t).R k.2.2.1).2 with|some u=>s.wait 5 u t k|none=>_)/\Go t 1 s (match gW s ((bw s t).R k.2.2.1).2 with|some u=>s.wait 5 u t k|none=>_)
   cases hf:gW s ((bw s t).R k.2.2.1).2 with
   | some u=>
    obtain⟨G,H⟩:=jM hf;exact⟨h.ok.wait h.lv trivial (ah (ah (ah ⟨rfl,h.ok.lt u G⟩))) (ah rfl) (λe=>J.2 ag) y,AE h.wh (ah rfl)⟩
   | none=>
    refine⟨h.oK k.2.1 ?_,(Go.same rfl rfl rfl rfl).mono ag⟩;generalize W:((bw s t).R k.2.2.1).2.toNat-1=j;by_cases i:j<s.out.length
    .rw[cr,bz i];exact(h.ok.ok _ (List.getElem_mem i)).elim (λe=>af e) (λe=>dW.root (ah e))
    grind[List.getElem?_eq_none,dW.num]
  exact o
 exact o
theorem CY{a:Nat}(h:Rn p s t):Ok p (iz s t a).2/\Go t 1 s (iz s t a).2:=by
 have o:Ok p s/\Go t 1 s s:=⟨h.ok,(Go.same rfl rfl rfl rfl).mono ag⟩;unfold iz;split
 .split
  .show Ok p (match gW s ((bw s t).R a).2 with|some u=>s.leave u (0,-100) 4 0|none=>s)/\Go t 1 s (match gW s ((bw s t).R a).2 with|some u=>s.leave u (0,-100) 4 0|none=>s)
   cases hf:gW s ((bw s t).R a).2 with
   | some u=>
    obtain⟨i,G⟩:=jM hf;obtain⟨k1,k2,y⟩:=uF s u (0,-100) 4 0;exact⟨h.ok.leave i (λ_ _=>trivial) (dW.num _) 4 0,Go.ends (ah (ah rfl)) i (h.ok.lt u i) h.ok.nd k2 k1 y (λe=>dp rfl e)⟩
   | none=>exact o
  exact o
 exact o
theorem GD(h:Rn p s t)(H:k.2.1<p.rg (bw s t).f):Ok p (kJ s t k).2/\Go t 1 s (kJ s t k).2:=by
 have o:Ok p s/\Go t 1 s s:=⟨h.ok,(Go.same rfl rfl rfl rfl).mono ag⟩;unfold kJ;split
 .split
  .rename_i J;generalize hz:((bw s t).R k.2.2.1).2.toNat=z
   show Ok p (match s.ft z with|x :: bs=>(s.fO z bs).dJ t (de s t) ((bw s t).set k.2.1 (0,(x:Int)))|[]=>s.wait 4 z t k)/\Go t 1 s (match s.ft z with|x :: bs=>(s.fO z bs).dJ t (de s t) ((bw s t).set k.2.1 (0,(x:Int)))|[]=>s.wait 4 z t k)
   cases hb:s.ft z with
   | nil=>exact⟨h.ok.wait h.lv trivial (ah (ah (af ⟨rfl,ag⟩))) (af rfl) ag H,AE h.wh (af rfl)⟩
   | cons x bs=>
    have e:=h.ok.bt z;rw[hb]at e;exact⟨fL.oK (s:=s.fO z bs) (h.ok.fO z bs ⟨eR,λy u=>e.2 y (by simp[u])⟩) h.lv trivial h.hi k.2.1 (dW.num _),(Go.same rfl rfl rfl rfl).mono ag⟩
  exact o
 exact o
theorem Bk{why:Int}(h:Rn p s t)(hn:s.nt+1<=500000000)(hk:Kt p (bw s t).f k)(hi:kM p s t k why s'):Ok p s'/\Go t 1 s s':=by
 obtain⟨i,a,b,c⟩:=k;obtain⟨k0,k1,k2,k3,y,G,J,Y,k8,k9⟩:=hk;simp only at k0 k1 k2 k3 y G J Y k8 k9;have H:Ok p s/\Go t 1 s s:=⟨h.ok,(Go.same rfl rfl rfl rfl).mono ag⟩;have u:∀o,xT s t o a b c why s'->Ok p s'/\Go t 1 s s':=λo ht=>by
  rcases ht with⟨_,_,rfl⟩|⟨_,_,rfl⟩
  .grind[xf]
  exact H
 have hc:=oU 22 i ag;repeat' rcases hc with rfl|hc
 .obtain⟨_,rfl⟩:=hi;grind[xf]
 .obtain⟨_,rfl⟩:=hi;exact⟨h.oK a (h.nM (G ag)),(Go.same rfl rfl rfl rfl).mono ag⟩
 .exact u 2 hi
 .exact u 3 hi
 .exact u 4 hi
 .exact u 5 hi
 .obtain⟨_,rfl⟩:=hi;grind[xf]
 .obtain⟨_,rfl⟩:=hi;exact⟨h.ok.dJ h.hi rfl rfl (Y ag) (λe he=>h.nM he),(Go.same rfl rfl rfl rfl).mono ag⟩
 .obtain⟨_,rfl⟩:=hi;refine⟨h.ok.dJ h.hi rfl rfl ?_ (λe he=>h.nM he),(Go.same rfl rfl rfl rfl).mono ag⟩;show(if _ then _ else _)<=p.len (bw s t).f;split
  .grind
  exact h.ff.2
 .exact Bc h (dk _) (λv W=>by grind[dW.num]) hi.2
 .rcases hi with⟨Z,_,rfl⟩|⟨_,_,rfl⟩
  .exact⟨h.oK a (uJ (B.pR.vO (h.nM (G ag)) Z.1) _),(Go.same rfl rfl rfl rfl).mono ag⟩
  exact H
 .rcases hi with⟨Z,_,rfl⟩|⟨_,_,rfl⟩
  .exact⟨h.ok.ur (B.pR.vO (h.nM (y ag ag)) Z.1) (h.nM (J ag)),(Go.same rfl rfl rfl rfl).mono ag⟩
  exact H
 .exact Bc h (k9 rfl) (λv W=>by grind[F.Rn.nM]) hi.2
 .obtain⟨_,rfl⟩:=hi;grind[Hw]
 .obtain⟨_,rfl⟩:=hi;grind[Go.back,F.fL.back,F.Rn.ok,F.Rn.lv,F.Rn.wh,F.Rn.nM]
 .obtain⟨_,rfl⟩:=hi;grind[DO]
 .obtain⟨_,rfl⟩:=hi;obtain⟨j1,_,_,_,_,_,_,_,j9,_⟩:=jg s 2 0 t;exact⟨h.ok.dY h.lv,(Go.quiet j9 j1 (iF s 2 0 t) ⟨[t],nW (by grind[F.Rn.wh])⟩).mono ag⟩
 .obtain⟨_,rfl⟩:=hi;show Ok p (jl s t a).2/\Go t 1 s (jl s t a).2;grind[jl,DQ]
 .obtain⟨_,rfl⟩:=hi;grind[FE]
 .obtain⟨_,rfl⟩:=hi;grind[CY]
 .obtain⟨_,rfl⟩:=hi;show Ok p (jU s t a).2/\Go t 1 s (jU s t a).2;unfold jU;split
  .exact⟨h.ok.told 1 t _,Go.Io (af rfl) h.lv rfl rfl rfl rfl⟩
  exact H
 .obtain⟨_,rfl⟩:=hi;grind[GD]
 obtain⟨_,rfl⟩:=hi;grind[xf]
